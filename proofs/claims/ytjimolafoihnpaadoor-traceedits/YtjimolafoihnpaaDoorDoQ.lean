/-
  The contract of with.
-/
import Derived.Test.YtjimolafoihnpaaDoorDoO
import Derived.Deep.AppendLies
namespace Go.Proofs.YtjimolafoihnpaaDoor
open Go.WideShapes Go.RowKit Go.ChangeShapes Go.ChangeAt Go.PlainAid

theorem wpList_app_one {ops : Array Oper} {rest : List Oper} {o : Oper} {a : Act} {Q : Exit → Act → World → Prop} (wr : World) (hgd : o.guard = none) (sl x : Operand)
    (ho : o.op = .call { callee := .builtin .append, args := #[sl, x], argTypes := #[22, 22] }) (B : Nat) (u : Value) (b : Nat) (X : List RunD) (r : RunD) (hs : a.eval sl = u) (hx : a.eval x = .slice (some ⟨b, 0, none⟩) 1 1)
    (hu : wr.ownsRow B 44 4 u X.length (rcs X)) (hB : B ≤ wr.heap.size) (hw : RdN wr (.slice (some ⟨b, 0, none⟩) 1 1) [r]) (hl : X.length + 1 ≤ 3298534883328)
    (h : ∀ g cap w', w'.ownsRow B 44 4 (.slice (some ⟨g, 0, none⟩) (X.length + 1) cap) (X ++ [r]).length (rcs (X ++ [r])) → wr.grownBy w' u.ownBlock → (u.ownBlock = some g ∨ g = wr.heap.size) → wpList Tryd.prog ops Q rest (a.put o.dst (.slice (some ⟨g, 0, none⟩) (X.length + 1) cap)) w') : wpList Tryd.prog ops Q (o :: rest) a wr := by
  refine wpList_plain hgd fun K hK => ?_
  obtain ⟨i0, hin, hz0, hz1, hz2⟩ := info_parts Tryd.infoRun
  obtain ⟨g, cap, w', hr, h2, h3, h4, -⟩ := run_append_lies (P := Tryd.prog) wr 22 o.type B 44 i0 (.agg #[.int .i64 0, .int .i64 0, .int .i64 0, .string ⟨#[]⟩]) 4 40 Tryd.underlying22 hin hz0 hz1 hz2 rfl (by decide) u X.length _ hu ⟨b, 0, none⟩ 1 1 (rcs [r]) (by rw [rcs_length]; rfl) (rdn_cells hw) (rcs_one' _) (by decide) (by unfold maxLen; omega) (by omega) hB _ rfl
  unfold Oper.wp execOp
  simp only [ho, resolve, invoke, builtin, Sem.run_bind, Sem.run_pure, Result.andThen_ok, List.map_toArray, List.map_cons, List.map_nil, hs, hx, hr]
  refine hK _ _ (h g cap w' ?_ h3 h4)
  rw [rcs_append, List.length_append]
  exact h2

theorem txB_wtS (X : List RunD) (r : RunD) : txB (wtS X r) = txB X ++ r.t.data.toList := by
  rcases List.eq_nil_or_concat X with rfl | ⟨Y, a, rfl⟩
  · simp [wtS, txB]
  · simp only [List.concat_eq_append]
    cases hn : nxR a r
    · rw [wtS_no hn, txB_append, txB_one]
    · rw [wtS_yes hn, txB_append, txB_append, txB_one, txB_one]
      simp [RunD.cat]
theorem txB_wtL : ∀ (more X : List RunD), txB (wtL X more) = txB X ++ txB more
  | [], X => by simp [wtL, txB]
  | r :: more, X => by rw [wtL_cons, txB_wtL more, txB_wtS, List.append_assoc]; simp [txB]
theorem txB_mem {X : List RunD} {a : RunD} (h : a ∈ X) : a.t.size ≤ (txB X).length := by
  obtain ⟨Y, Z, rfl⟩ := List.append_of_mem h
  rw [txB_append, show a :: Z = [a] ++ Z from rfl, txB_append, txB_one]
  simp
  omega
/-- A run that with may be given. -/
def RunD.Wf (r : RunD) : Prop := r.Ok ∧ 0 ≤ r.f ∧ r.f ≤ 1000000
theorem wtS_wf {X : List RunD} {r : RunD} (h : ∀ a ∈ X, a.Wf) (hr : r.Wf) : ∀ a ∈ wtS X r, a.Wf := by
  intro x hx
  rcases List.eq_nil_or_concat X with rfl | ⟨Y, a, rfl⟩
  · simp [wtS] at hx
    subst hx
    exact hr
  · simp only [List.concat_eq_append] at *
    cases hn : nxR a r
    · rw [wtS_no hn] at hx
      rcases List.mem_append.1 hx with hx | hx
      · exact h x hx
      · simp at hx; subst hx; exact hr
    · rw [wtS_yes hn] at hx
      rcases List.mem_append.1 hx with hx | hx
      · exact h x (by simp [hx])
      · simp at hx
        subst hx
        have ha := h a (by simp)
        exact ⟨(cat_ats ha.1 hr.1 hn).2, ha.2⟩
theorem wtL_wf : ∀ {more X : List RunD}, (∀ a ∈ X, a.Wf) → (∀ a ∈ more, a.Wf) → ∀ a ∈ wtL X more, a.Wf
  | [], _, h, _ => h
  | r :: more, _, h, hm => by
    rw [wtL_cons]
    exact wtL_wf (wtS_wf h (hm r (by simp))) (fun a ha => hm a (by simp [ha]))
theorem wtS_len (X : List RunD) (r : RunD) : (wtS X r).length ≤ X.length + 1 := by
  rcases List.eq_nil_or_concat X with rfl | ⟨Y, a, rfl⟩
  · simp [wtS]
  · simp only [List.concat_eq_append]
    cases hn : nxR a r
    · rw [wtS_no hn]; simp
    · rw [wtS_yes hn]; simp
theorem wtL_len : ∀ (more X : List RunD), (wtL X more).length ≤ X.length + more.length
  | [], X => by simp [wtL]
  | r :: more, X => by
    have h1 := wtL_len more (wtS X r)
    have h2 := wtS_len X r
    rw [wtL_cons]
    simp
    omega

/-- with on its way. -/
structure WI (w wr : World) (B : Nat) (X : List RunD) (u0 u : Value) : Prop where
  own : wr.ownsRow B 44 4 u X.length (rcs X)
  on : Only u0.ownBlock.toList w wr
  lies : ∀ g, u.ownBlock = some g → u0.ownBlock = some g ∨ w.heap.size ≤ g

/-- with has a run in its box b. -/
structure WB (w W : World) (B b : Nat) (X : List RunD) (u0 u : Value) (r : RunD) : Prop where
  own : W.ownsRow B 44 4 u X.length (rcs X)
  on : Only u0.ownBlock.toList w W
  lies : ∀ g, u.ownBlock = some g → u0.ownBlock = some g ∨ w.heap.size ≤ g
  bx : RB W b r
  nb : ∀ g, u.ownBlock = some g → g ≠ b
  hb : w.heap.size ≤ b
theorem WI.box {w wr : World} {B : Nat} {X : List RunD} {u0 u : Value} (h : WI w wr B X u0 u) (r : RunD) : WB w (wr.alloc (c4 r)) B wr.heap.size X u0 u r :=
  ⟨h.own.alloc _, h.on.trans (Only.alloc _ _ _), h.lies, heap_alloc_new wr _, fun g hg e => by have := (h.own.lt g hg).2; omega, h.on.size⟩
theorem WB.below {w W W' : World} {B b : Nat} {X : List RunD} {u0 u : Value} {r : RunD} (h : WB w W B b X u0 u r) (hb : Below W.heap.size W W') : WB w W' B b X u0 u r :=
  ⟨own_belowG h.own hb, h.on.trans (Only.of_below hb), h.lies, h.bx.below hb, h.nb, h.hb⟩
theorem WB.set {w W : World} {B b : Nat} {X : List RunD} {u0 u : Value} {r : RunD} (h : WB w W B b X u0 u r) : WB w (W.setCell ⟨b, 3, none⟩ (.string r.t)) B b X u0 u r := by
  have hO : Only [b] W (W.setCell ⟨b, 3, none⟩ (.string r.t)) := Only.setCell W (by simp) _
  exact ⟨own_only h.own hO (fun g hg => by simp; exact h.nb g hg), h.on.new hO (fun i hi => by simp at hi; subst hi; exact .inr h.hb), h.lies, heap_setCell h.bx 3 _, h.nb, h.hb⟩
theorem WB.app {w W w' : World} {B b g cap : Nat} {X : List RunD} {u0 u : Value} {r : RunD} {o : Obj} (h : WB w W B b X u0 u r) (ho : w'.ownsRow B 44 4 (.slice (some ⟨g, 0, none⟩) (X.length + 1) cap) (X ++ [r]).length (rcs (X ++ [r]))) (hg : (W.alloc o).grownBy w' u.ownBlock) (hl : u.ownBlock = some g ∨ g = (W.alloc o).heap.size) :
    WI w w' B (X ++ [r]) u0 (.slice (some ⟨g, 0, none⟩) (X.length + 1) cap) := by
  have hs := h.on.size
  refine ⟨ho, ?_, fun k hk => ?_⟩
  · have o1 : Only u0.ownBlock.toList w (W.alloc o) := h.on.trans (Only.alloc _ _ _)
    refine o1.new (Only.of_grown (S := u.ownBlock.toList) hg (fun k hk => by simp [hk])) (fun i hi => ?_)
    simp only [Option.mem_toList] at hi ⊢
    exact h.lies i hi
  · have : k = g := by simpa [Value.ownBlock] using hk.symm
    subst this
    rcases hl with hl | hl
    · exact h.lies _ hl
    · exact .inr (by rw [World.size_alloc] at hl; omega)

theorem own_cell {W : World} {B n g cap j z : Nat} {e : TypeId} {L : List Value} (h : W.ownsRow B e z (.slice (some ⟨g, 0, none⟩) n cap) n L) (v : Value) :
    (W.setCell ⟨g, j, none⟩ v).ownsRow B e z (.slice (some ⟨g, 0, none⟩) n cap) n (L.set j v) := by
  obtain ⟨hl, h2⟩ := h
  rcases h2 with ⟨h1, _⟩ | ⟨g', cap', cur, h1, hb, hg, hn, hm, hc, ht⟩
  · cases h1
  · cases h1
    refine ⟨by rw [List.length_set]; exact hl, .inr ⟨g, cap, cur.setIfInBounds j v, rfl, hb, heap_setCell hg j v, hn, hm, by simpa using hc, ?_⟩⟩
    rw [Array.toList_setIfInBounds, ← ht, List.take_set]
theorem own_zero {W : World} {B n m g o cap z : Nat} {e : TypeId} {L : List Value} (h : W.ownsRow B e z (.slice (some ⟨g, o, none⟩) m cap) n L) : o = 0 ∧ ∃ cur, W.heap[g]? = some (.cells cur e (0, 0)) := by
  rcases h.2 with ⟨e, _⟩ | ⟨g', cap', cur, e, _, hg, _⟩
  · cases e
  · cases e
    exact ⟨rfl, _, hg⟩
theorem rcs_cat (Y : List RunD) (a r : RunD) : (rcs (Y ++ [a])).set (Y.length * 4 + 3) (.string (a.t ++ r.t)) = rcs (Y ++ [a.cat r]) := by
  rw [rcs_append, rcs_append, rcs_one, rcs_one, List.set_append, if_neg (by rw [rcs_length]; omega), rcs_length, Nat.add_sub_cancel_left]
  rfl
theorem WB.cat {w W : World} {B b g n cap : Nat} {Y : List RunD} {u0 : Value} {a r : RunD} (h : WB w W B b (Y ++ [a]) u0 (.slice (some ⟨g, 0, none⟩) n cap) r) (hn : (Y ++ [a]).length = n) :
    WI w (W.setCell ⟨g, Y.length * 4 + 3, none⟩ (.string (a.t ++ r.t))) B (Y ++ [a.cat r]) u0 (.slice (some ⟨g, 0, none⟩) n cap) := by
  subst hn
  have h1 := own_cell (j := Y.length * 4 + 3) h.own (.string (a.t ++ r.t))
  rw [rcs_cat] at h1
  have hO : Only [g] W (W.setCell ⟨g, Y.length * 4 + 3, none⟩ (.string (a.t ++ r.t))) := Only.setCell W (by simp) _
  refine ⟨?_, h.on.new hO (fun i hi => ?_), h.lies⟩
  · rw [show (Y ++ [a]).length = (Y ++ [a.cat r]).length by simp] at h1 ⊢
    exact h1
  · simp at hi
    subst hi
    simp only [Option.mem_toList]
    exact h.lies i rfl
theorem WI.drew {w W : World} {B : Nat} {X : List RunD} {u0 u : Value} (h : WI w W B X u0 u) : WI w W.drew B X u0 u := ⟨h.own, h.on.trans (Only.drew _ _), h.lies⟩

set_option maxRecDepth 20000 in
set_option maxHeartbeats 1000000 in
theorem with_any (w0 : World) (hV : VS w0) (B : Nat) (u v : Value) (l more : List RunD) (w : World) (hB0 : Below w0.heap.size w0 w) (hwB : w0.heap.size ≤ B) (hBw : B ≤ w.heap.size) (hu : w.ownsRow B 44 4 u l.length (rcs l)) (hr : RdN w v more)
    (hap : more ≠ [] → ∀ g, v.ownBlock = some g → g ∉ u.ownBlock.toList) (hll : l.length + more.length ≤ 1000000) (htx : (txB l).length + (txB more).length ≤ 1125899906842) (hl : ∀ a ∈ l, a.Wf) (hm : ∀ a ∈ more, a.Wf) :
    Calls Tryd.prog 49 #[u, v] w fun e w' => ∃ u', e = .returned u' ∧ WI w w' B (wtL l more) u u' := by
  have hI : WI w w B (wtL l (more.take 0)) u u := ⟨hu, Only.refl _ _, fun g h => .inl h⟩
  obtain ⟨a0, c0, rfl⟩ := own_form hu
  obtain ⟨ao, cp, hv, -⟩ := id hr
  subst hv
  have hu0 : ∀ k ∈ (Value.slice a0 l.length c0).ownBlock.toList, w0.heap.size ≤ k := fun k hk => by
    simp only [Option.mem_toList] at hk
    have := (hu.lt k hk).1
    omega
  clear hu
  go_enter Tryd.func49, Tryd.ntmps49
  go_wp2_with fail
  go_loopw [0, 10] (fun x i wr => ∃ (k : Nat), k ≤ more.length ∧ i = .int .i64 (k : Int) ∧ WI w wr B (wtL l (more.take k)) (.slice a0 l.length c0) x) (fun _ i _ => more.length - (intOf i).toNat)
  case atStart => exact ⟨0, Nat.zero_le _, rfl, hI⟩
  case round =>
    obtain ⟨k, hk, rfl, hJ⟩ := hrel
    clear hI
    by_cases hlt : k < more.length
    · have hlt' : (k : Int) < (more.length : Int) := by omega
      obtain ⟨bb, off, e1, -, e2, e3, e4, e5⟩ := (rdn_only hr hJ.on hap).at k more[k] (by simp [hlt])
      have hwt : Hid (wtL l (more.take (k + 1)) = wtS (wtL l (more.take k)) more[k]) := wtL_take hlt
      have hrw := hm more[k] (List.getElem_mem hlt)
      have hXw := wtL_wf hl (fun a ha => hm a (List.mem_of_mem_take ha)) (more := more.take k)
      have hXt : (txB (wtL l (more.take k))).length + more[k].t.size ≤ 1125899906842 := by
        have h1 := txB_take hlt
        have h2 := txB_le more (k + 1)
        rw [h1] at h2
        simp at h2
        rw [txB_wtL]
        simp
        omega
      have hXl : (wtL l (more.take k)).length ≤ 1000000 := by
        have := wtL_len (more.take k) l
        simp at this
        omega
      generalize more[k] = r at *
      generalize wtL l (more.take k) = X at *
      subst e1
      obtain ⟨a1, c1, rfl⟩ := own_form hJ.own
      have hWB := hJ.box r
      unfold c4 at hWB
      have hcl : ∀ W, Calls Tryd.prog 80 #[.string r.t] W fun e w' => e = .returned (.string r.t) ∧ Below W.heap.size W w' := fun W => strClone_any r.t W (ok_size hrw.1) (by omega)
      have hx1 : RB (wr.alloc (.cells #[.int .i64 r.c, .int .i64 r.q, .int .i64 r.f, .string r.t] 44)) wr.heap.size r := heap_alloc_new wr _
      rcases List.eq_nil_or_concat X with rfl | ⟨Y, a, rfl⟩
      · go_upto_region 5 with fail
        go_cut [26] (fun t wx => t = .bool false ∧ Below (wr.heap.size + 1) (wr.alloc (.cells #[.int .i64 r.c, .int .i64 r.q, .int .i64 r.f, .string r.t] 44)) wx)
        case first =>
          refine wp_region_held_drew (S := fun _ => True) (by kernel_rfl) True.intro (fun hHeld => ?_)
          refine wpAnyH_take (i := 0) (oi := { dst := some 17, op := Op.move (Operand.tmp 7), type := 3, pos := "runs.go:58", after := #[], guard := none }) (v := .int .i64 (-1)) rfl (by kernel_rfl) (by kernel_rfl) (by kernel_rfl) (fun _ _ _ h => h) (Or.inl ⟨by rfl, fun W _ => rfl⟩) hHeld ?_
          simp only [Act.put, List.setIfInBounds_toArray, List.set_cons_zero, List.set_cons_succ]
          refine wpAnyH_take (i := 1) (oi := { dst := some 18, op := Op.binOp BinOp.geq 3 (Operand.tmp 17) (Operand.const (Value.int IntKind.i64 0)) 3, type := 4, pos := "runs.go:58", after := #[{ on := 0, ground := Ground.data }], guard := none }) (v := .bool false) rfl (by kernel_rfl) (by kernel_rfl) (by kernel_rfl) (fun _ _ _ h => h) (Or.inl ⟨by rfl, fun W _ => rfl⟩) hHeld ?_
          simp only [Act.put, List.setIfInBounds_toArray, List.set_cons_zero, List.set_cons_succ]
          refine wpAnyH_take (i := 2) (oi := { dst := some 19, op := Op.move (Operand.tmp 18), type := 4, pos := "runs.go:58", after := #[{ on := 1, ground := Ground.data }], guard := none }) (v := .bool false) rfl (by kernel_rfl) (by kernel_rfl) (by kernel_rfl) (fun _ _ _ h => h) (Or.inl ⟨by rfl, fun W _ => rfl⟩) hHeld ?_
          simp only [Act.put, List.setIfInBounds_toArray, List.set_cons_zero, List.set_cons_succ]
          refine wpAnyH_take (i := 3) (oi := { dst := some 20, op := Op.move (Operand.tmp 0), type := 22, pos := "runs.go:58", after := #[{ on := 2, ground := Ground.guard }], guard := some (2, true) }) (v := undef) rfl (by kernel_rfl) (by kernel_rfl) (by kernel_rfl) (fun _ _ _ h => h) (Or.inr ⟨wanted_no (j := 2) (b := true) (c := false) rfl rfl (by decide), rfl⟩) hHeld ?_
          simp only [Act.put, List.setIfInBounds_toArray, List.set_cons_zero, List.set_cons_succ]
          refine wpAnyH_take (i := 4) (oi := { dst := some 21, op := Op.move (Operand.tmp 7), type := 3, pos := "runs.go:58", after := #[{ on := 2, ground := Ground.guard }], guard := some (2, true) }) (v := undef) rfl (by kernel_rfl) (by kernel_rfl) (by kernel_rfl) (fun _ _ _ h => h) (Or.inr ⟨wanted_no (j := 2) (b := true) (c := false) rfl rfl (by decide), rfl⟩) hHeld ?_
          simp only [Act.put, List.setIfInBounds_toArray, List.set_cons_zero, List.set_cons_succ]
          refine wpAnyH_take (i := 5) (oi := { dst := some 22, op := Op.indexAddr 22 (Operand.tmp 20) (Operand.tmp 21), type := 0, pos := "runs.go:58", after := #[{ on := 3, ground := Ground.data }, { on := 4, ground := Ground.data }, { on := 2, ground := Ground.guard }], guard := some (2, true) }) (v := undef) rfl (by kernel_rfl) (by kernel_rfl) (by kernel_rfl) (fun _ _ _ h => h) (Or.inr ⟨wanted_no (j := 2) (b := true) (c := false) rfl rfl (by decide), rfl⟩) hHeld ?_
          simp only [Act.put, List.setIfInBounds_toArray, List.set_cons_zero, List.set_cons_succ]
          refine wpAnyH_take (i := 6) (oi := { dst := some 23, op := Op.load 44 (Operand.tmp 22), type := 44, pos := "runs.go:58", after := #[{ on := 5, ground := Ground.data }, { on := 2, ground := Ground.guard }], guard := some (2, true) }) (v := undef) rfl (by kernel_rfl) (by kernel_rfl) (by kernel_rfl) (fun _ _ _ h => h) (Or.inr ⟨wanted_no (j := 2) (b := true) (c := false) rfl rfl (by decide), rfl⟩) hHeld ?_
          simp only [Act.put, List.setIfInBounds_toArray, List.set_cons_zero, List.set_cons_succ]
          refine wpAnyH_take (i := 7) (oi := { dst := some 24, op := Op.load 44 (Operand.tmp 6), type := 44, pos := "runs.go:58", after := #[{ on := 2, ground := Ground.guard }], guard := some (2, true) }) (v := undef) rfl (by kernel_rfl) (by kernel_rfl) (by kernel_rfl) (fun _ _ _ h => h) (Or.inr ⟨wanted_no (j := 2) (b := true) (c := false) rfl rfl (by decide), rfl⟩) hHeld ?_
          simp only [Act.put, List.setIfInBounds_toArray, List.set_cons_zero, List.set_cons_succ]
          refine wpAnyH_take (i := 8) (oi := { dst := some 25, op := Op.call { callee := Callee.value (Operand.func 14), args := #[Operand.tmp 23, Operand.tmp 24], argTypes := #[44, 44] }, type := 4, pos := "runs.go:58", after := #[{ on := 6, ground := Ground.data }, { on := 7, ground := Ground.data }, { on := 2, ground := Ground.chain }, { on := 2, ground := Ground.guard }], guard := some (2, true) }) (v := undef) rfl (by kernel_rfl) (by kernel_rfl) (by kernel_rfl) (fun _ _ _ h => h) (Or.inr ⟨wanted_no (j := 2) (b := true) (c := false) rfl rfl (by decide), rfl⟩) hHeld ?_
          simp only [Act.put, List.setIfInBounds_toArray, List.set_cons_zero, List.set_cons_succ]
          refine wpAnyH_take (i := 9) (oi := { dst := some 26, op := Op.pick (Operand.tmp 19) (Operand.tmp 25) (Operand.const (Value.bool false)), type := 4, pos := "runs.go:58", after := #[{ on := 2, ground := Ground.data }, { on := 8, ground := Ground.data }], guard := none }) (v := .bool false) rfl (by kernel_rfl) (by kernel_rfl) (by kernel_rfl) (fun _ _ _ h => h) (Or.inl ⟨by rfl, fun W _ => rfl⟩) hHeld ?_
          simp only [Act.put, List.setIfInBounds_toArray, List.set_cons_zero, List.set_cons_succ]
          refine wpAnyH_done (by kernel_rfl) ?_ _
          go_wp2_with fail
          go_meet
          exact ⟨rfl, Below.drew (Below.refl _ _)⟩
        case rest =>
          obtain ⟨rfl, hbc⟩ := hcut
          have hfinE : Hid (wtL l (more.take (k + 1)) = [] ++ [r]) := by show _ = _; rw [hwt.out]; rfl
          have hW := hWB.below (by rw [World.size_alloc]; exact hbc)
          clear hWB hbc
          obtain ⟨d0, d1, d2, d3⟩ := hW.bx.cells
          go_wp2_with (first | (go_at_call 80; refine (hcl _).mono ?_; rintro e w2 ⟨rfl, hb2⟩; have hW2 := hW.below hb2; obtain ⟨p0, p1, p2, p3⟩ := hW2.bx.cells; have f3 := frz hW2.bx 3; have hW3 := hW2.set; have hRd := rdn_new (w2.setCell ⟨wr.heap.size, 3, none⟩ (.string r.t)) r; have hsz : (w2.setCell ⟨wr.heap.size, 3, none⟩ (.string r.t)).heap.size = w2.heap.size := (by simp [World.setCell]); rw [hsz] at hRd; have hBs : B ≤ ((w2.setCell ⟨wr.heap.size, 3, none⟩ (.string r.t)).alloc (c4 r)).heap.size := (by have := hW3.on.size; simp; simp at this; omega); unfold c4 at hBs) | (at_builtin; refine wpList_app_one _ rfl (.tmp 41) (.tmp 43) rfl B _ w2.heap.size [] r rfl rfl (hW3.own.alloc _) hBs hRd (by omega) ?_; intro g cap w5 ho5 hg5 hl5; have hfin := hW3.app ho5 hg5 hl5))
          refine ⟨⟨k + 1, by omega, by simp, by rw [hfinE.out]; exact hfin⟩, ?_⟩
          simp [intOf]
          omega
      · simp only [List.concat_eq_append] at *
        have haw := hXw a (by simp)
        have hXm := txB_mem (X := Y ++ [a]) (a := a) (by simp)
        obtain ⟨g, o, e6, hgl, b0, b1, b2, b3⟩ := (rdn_own hJ.own).at Y.length a (by simp)
        subst e6
        have hBn : Below w0.heap.size w0 (wr.alloc (.cells #[.int .i64 r.c, .int .i64 r.q, .int .i64 r.f, .string r.t] 44)).drew := ((hB0.trans (hJ.on.below hB0.size hu0)).alloc (by have := hJ.on.size; have := hB0.size; omega) _).drew
        have hnx := isNext_any a r (wr.alloc (.cells #[.int .i64 r.c, .int .i64 r.q, .int .i64 r.f, .string r.t] 44)).drew (hV.below hBn) (by omega) haw.2.1 haw.2.2 (by have := haw.1; unfold RunD.Ok at this; omega)
        unfold RunD.v at hnx
        obtain ⟨k0, k1, k2, k3⟩ := cells4 b0 b1 b2 b3 hgl ((Below.refl _ wr).alloc (Nat.le_refl _) (.cells #[.int .i64 r.c, .int .i64 r.q, .int .i64 r.f, .string r.t] 44))
        obtain ⟨x0, x1, x2, x3⟩ := hx1.cells
        have hlen : (Y ++ [a]).length = Y.length + 1 := by simp
        have hYl : Y.length < 1000000 := by rw [hlen] at hXl; omega
        rw [hlen] at hJ hWB ⊢
        clear b0 b1 b2 b3 hBn
        go_upto_region 5 with fail
        go_cut [26] (fun t wx => t = .bool (nxR a r) ∧ Below (wr.heap.size + 1) (wr.alloc (.cells #[.int .i64 r.c, .int .i64 r.q, .int .i64 r.f, .string r.t] 44)) wx)
        case first =>
          go_region_with (go_at_call 14; refine hnx.mono ?_; rintro e w1 ⟨rfl, hb1⟩)
          all_goals
            go_wp2_with fail
            go_meet
          all_goals exact ⟨rfl, (Below.drew (Below.refl _ _)).trans (hb1.mono (by show _ ≤ (World.alloc _ _).heap.size; simp))⟩
        case rest =>
          obtain ⟨rfl, hbc⟩ := hcut
          cases hn : nxR a r
          · have hfinE : Hid (wtL l (more.take (k + 1)) = Y ++ [a] ++ [r]) := by show _ = _; rw [hwt.out, wtS_no hn]
            have hW := hWB.below (by rw [World.size_alloc]; exact hbc)
            clear hWB hbc
            obtain ⟨d0, d1, d2, d3⟩ := hW.bx.cells
            go_wp2_with (first | (go_at_call 80; refine (hcl _).mono ?_; rintro e w2 ⟨rfl, hb2⟩; have hW2 := hW.below hb2; obtain ⟨p0, p1, p2, p3⟩ := hW2.bx.cells; have f3 := frz hW2.bx 3; have hW3 := hW2.set; have hRd := rdn_new (w2.setCell ⟨wr.heap.size, 3, none⟩ (.string r.t)) r; have hsz : (w2.setCell ⟨wr.heap.size, 3, none⟩ (.string r.t)).heap.size = w2.heap.size := (by simp [World.setCell]); rw [hsz] at hRd; have hBs : B ≤ ((w2.setCell ⟨wr.heap.size, 3, none⟩ (.string r.t)).alloc (c4 r)).heap.size := (by have := hW3.on.size; simp; simp at this; omega); unfold c4 at hBs) | (at_builtin; refine wpList_app_one _ rfl (.tmp 41) (.tmp 43) rfl B _ w2.heap.size (Y ++ [a]) r rfl rfl (hW3.own.alloc _) hBs hRd (by omega) ?_; intro g cap w5 ho5 hg5 hl5; have hfin := hW3.app ho5 hg5 hl5; rw [hlen] at hfin))
            refine ⟨⟨k + 1, by omega, by simp, by rw [hfinE.out]; exact hfin⟩, ?_⟩
            simp [intOf]
            omega
          · have hfinE : Hid (wtL l (more.take (k + 1)) = Y ++ [a.cat r]) := by show _ = _; rw [hwt.out, wtS_yes hn]
            have hW := hWB.below (by rw [World.size_alloc]; exact hbc)
            clear hWB hbc hnx k0 k1 k2 k3 x0 x1 x2 x3
            obtain ⟨d0, d1, d2, d3⟩ := hW.bx.cells
            obtain ⟨rfl, cur, hcur⟩ := own_zero hW.own
            have f3 := frz hcur (Y.length * 4 + 3)
            have hown := hW.own
            rw [← hlen] at hown
            obtain ⟨g2, o2, e6, -, -, -, -, b3⟩ := (rdn_own hown).at Y.length a (by simp)
            injection e6 with e6
            injection e6 with e7 e8
            subst e7 e8
            rw [Nat.zero_add] at b3
            have hfin := (hW.cat hlen).drew
            clear hown hcur
            go_upto_region 6 with fail
            go_region
            all_goals
              go_wp2_with fail
            all_goals
              refine ⟨⟨k + 1, by omega, by simp, by rw [hfinE.out]; exact hfin⟩, ?_⟩
              simp [intOf]
              omega
    · obtain rfl : k = more.length := by omega
      rw [List.take_length] at hJ
      obtain ⟨a1, c1, rfl⟩ := own_form hJ.own
      clear hr hap
      go_wp2_with fail
      go_ret
      exact ⟨_, rfl, hJ⟩
end Go.Proofs.YtjimolafoihnpaaDoor

/-
  What Check tells.
-/
namespace Go.Proofs.YtjimolafoihnpaaDoor
open Go.WideShapes Go.RowKit Go.ChangeShapes Go.ChangeAt Go.PlainAid

/-- None goes on the one ahead of it. -/
def adj : Option RunD → List RunD → Prop
  | _, [] => True
  | p, r :: l => (∀ a, p = some a → nxR a r = false) ∧ adj (some r) l
/-- The keys of a document's atoms. -/
def kysL (l : List RunD) : List AtK := l.flatMap RunD.kys
theorem kysL_cons (r : RunD) (l : List RunD) : kysL (r :: l) = r.kys ++ kysL l := by simp [kysL]
theorem kys_len (r : RunD) : r.kys.length = r.k := by simp [RunD.kys, RunD.k]
theorem ckG_iff : ∀ (l : List RunD) (S : List AtK) (p : Option RunD), S.length ≤ 1000 →
    (ckG S p l = true ↔ (∀ r ∈ l, mayR r = true) ∧ adj p l ∧ (sg S (kysL l)).isSome = true ∧ S.length + (kysL l).length ≤ 1000)
  | [], S, p, hS => by simp [ckG, adj, kysL, sg, hS]
  | r :: l, S, p, hS => by
    rw [ckG_cons, kysL_cons, sg_append]
    simp only [Bool.and_eq_true, List.length_append, kys_len]
    have hp : (match p with | none => true | some a => !nxR a r) = true ↔ ∀ a, p = some a → nxR a r = false := by
      cases p <;> simp
    cases hs : sg S r.kys with
    | none => simp
    | some T =>
      have hT := sg_some hs
      have hTl : T.length = S.length + r.k := by rw [hT, List.length_append, kys_len]
      simp only [Option.bind_some, Bool.and_eq_true, decide_eq_true_eq]
      constructor
      · rintro ⟨⟨h1, h2⟩, h3, h4⟩
        obtain ⟨i1, i2, i3, i4⟩ := (ckG_iff l T (some r) h3).1 h4
        exact ⟨fun x hx => (List.mem_cons.1 hx).elim (fun e => e ▸ h1) (i1 x), ⟨hp.1 h2, i2⟩, i3, by omega⟩
      · rintro ⟨h1, ⟨h2, h3⟩, h4, h5⟩
        have hT3 : T.length ≤ 1000 := by omega
        exact ⟨⟨h1 r (by simp), hp.2 h2⟩, hT3, (ckG_iff l T (some r) hT3).2 ⟨fun x hx => h1 x (by simp [hx]), h3, h4, by omega⟩⟩
theorem can_of : ∀ {l : List RunD} {p : Option RunD}, adj p l → (∀ r ∈ l, r.Ok) → Can l
  | [], _, _, _ => trivial
  | [r], _, _, h => h r (by simp)
  | a :: r :: l, _, h, ho => ⟨ho a (by simp), h.2.1 a rfl, can_of (l := r :: l) h.2 (fun x hx => ho x (by simp [hx]))⟩
theorem adj_of : ∀ {l : List RunD} {p : Option RunD}, Can l → (∀ a r, p = some a → l.head? = some r → nxR a r = false) → adj p l
  | [], _, _, _ => trivial
  | [r], _, _, h => ⟨fun a e => h a r e rfl, trivial⟩
  | a :: r :: l, _, hc, h => ⟨fun b e => h b a e rfl, adj_of (l := r :: l) hc.2.2 (fun b x e hx => by
      injection e with e
      injection hx with hx
      rw [← e, ← hx]
      exact hc.2.1)⟩
theorem may_fit {r : RunD} (h : mayR r = true) : r.Fit := by
  obtain ⟨-, h1, h2, h3⟩ := mayR_iff.1 h
  have hs := size_cpl h1
  exact ⟨h1, h2, by unfold RunD.k; omega, by omega⟩
theorem fit_wf {r : RunD} (h : r.Fit) : r.Wf := ⟨h.ok, h.f0, by have := h.fk; omega⟩
theorem tx_bound : ∀ (l : List RunD), (∀ r ∈ l, r.Ok) → (txB l).length ≤ 4 * (kysL l).length ∧ l.length ≤ (kysL l).length
  | [], _ => by simp [txB, kysL]
  | r :: l, h => by
    obtain ⟨h1, h2⟩ := tx_bound l (fun x hx => h x (by simp [hx]))
    have hr : r.Ok := h r (by simp)
    have hs := size_cpl hr
    have hk : 0 < r.k := by unfold RunD.k; unfold RunD.Ok at hr; omega
    rw [kysL_cons, List.length_append, kys_len, show r :: l = [r] ++ l from rfl, txB_append, txB_one]
    have e : r.t.data.toList.length = r.t.size := by rw [Array.length_toList]; rfl
    simp only [List.length_append, e, List.length_cons, List.length_nil]
    unfold RunD.k at *
    omega
/-- What a document that may be is. -/
structure Good (l : List RunD) : Prop where
  may : ∀ r ∈ l, mayR r = true
  can : Can l
  one : (sg [] (kysL l)).isSome = true
  len : (kysL l).length ≤ 1000
theorem good_iff (l : List RunD) : ckG [] none l = true ↔ Good l := by
  rw [ckG_iff l [] none (by simp)]
  constructor
  · rintro ⟨h1, h2, h3, h4⟩
    exact ⟨h1, can_of h2 (fun r hr => (may_fit (h1 r hr)).ok), h3, by simpa using h4⟩
  · intro h
    exact ⟨h.may, adj_of h.can (fun a r e => by cases e), h.one, by simpa using h.len⟩
theorem Good.fit {l : List RunD} (h : Good l) : ∀ r ∈ l, r.Fit := fun r hr => may_fit (h.may r hr)
theorem Good.bound {l : List RunD} (h : Good l) : (txB l).length ≤ 4000 ∧ l.length ≤ 1000 := by
  obtain ⟨h1, h2⟩ := tx_bound l (fun r hr => (h.fit r hr).ok)
  have := h.len
  omega
theorem ckR_zero {l : List RunD} : ckR l = 0 ↔ Good l := by
  rw [← good_iff, ckR]
  split <;> simp_all
end Go.Proofs.YtjimolafoihnpaaDoor

/-
  The contract of Slice.
-/
namespace Go.Proofs.YtjimolafoihnpaaDoor
open Go.WideShapes Go.RowKit Go.ChangeShapes Go.ChangeAt Go.PlainAid

theorem mk_nil0 : cpl (mk []) = 0 := by
  have := cpl_enc (p := []) (by simp)
  simpa [enc] using this.1
theorem txt_cpl : ∀ (l : List RunD), (∀ r ∈ l, r.Ok) → cpl (mk (txB l)) = (kysL l).length
  | [], _ => by rw [txB_nil, mk_nil0]; rfl
  | r :: l, h => by
    have ih := txt_cpl l (fun x hx => h x (by simp [hx]))
    have hr : r.Ok := h r (by simp)
    have h0 : 0 ≤ cpl r.t := by unfold RunD.Ok at hr; omega
    rw [show r :: l = [r] ++ l from rfl, txB_append, txB_one, ← mk_app, mk_self, (app_pts h0 (by rw [ih]; omega)).1, ih, show [r] ++ l = r :: l from rfl, kysL_cons, List.length_append, kys_len]
    unfold RunD.k
    omega
theorem tkG_facts : ∀ (L : List RunD) (n : Nat), (∀ r ∈ L, r.Fit) → (∀ r ∈ (tkG n L).1, r.Wf) ∧ (tkG n L).1.length ≤ L.length ∧ (tkG n L).2.length ≤ L.length ∧ (txB (tkG n L).1).length ≤ (txB L).length ∧ (txB (tkG n L).2).length ≤ (txB L).length
  | [], n, _ => by simp [tkG, txB]
  | r :: L, n, h => by
    have hr := h r (by simp)
    by_cases h0 : n = 0
    · subst h0
      rw [tkG_zero]
      simp [txB]
    · by_cases hk : r.k ≤ n
      · obtain ⟨a1, a2, a3, a4, a5⟩ := tkG_facts L (n - r.k) (fun x hx => h x (by simp [hx]))
        rw [tkG_all h0 hk, show r :: L = [r] ++ L from rfl, show r :: (tkG (n - r.k) L).1 = [r] ++ (tkG (n - r.k) L).1 from rfl, txB_append, txB_append]
        simp only [List.length_append, List.length_cons, List.length_nil]
        refine ⟨fun x hx => ?_, by omega, by omega, by omega, by omega⟩
        rcases List.mem_append.1 hx with hx | hx
        · simp at hx
          subst hx
          exact fit_wf hr
        · exact a1 x hx
      · have hk' : n < r.k := by omega
        have s1 := hd_size r n
        have s2 : (r.tl n).t.size ≤ r.t.size := by
          show (r.t.extract _ _).size ≤ _
          simp
        have e : ∀ x : RunD, x.t.data.toList.length = x.t.size := fun x => by rw [Array.length_toList]; rfl
        rw [tkG_part h0 hk', show r :: L = [r] ++ L from rfl, show r.tl n :: L = [r.tl n] ++ L from rfl, txB_append, txB_append, txB_one, txB_one, txB_one]
        simp only [List.length_append, List.length_cons, List.length_nil, e]
        refine ⟨fun x hx => ?_, by omega, by omega, by omega, by omega⟩
        simp at hx
        subst hx
        have := hr.fk
        exact ⟨hd_ok hr.ok (by omega) (Nat.le_of_lt hk'), hr.f0, by show r.f ≤ _; omega⟩
/-- How many atoms. -/
def num (l : List RunD) : Nat := (kysL l).length
/-- What Slice answers: the error. -/
def slE (l : List RunD) (f t : Int) : Int := if ckG [] none l = true then (if 0 ≤ f ∧ f ≤ t ∧ t ≤ num l then 0 else 1) else 120
/-- .. and the document. -/
def slL (l : List RunD) (f t : Int) : List RunD := if ckG [] none l = true then (if 0 ≤ f ∧ f ≤ t ∧ t ≤ num l then wtL [] (tkG (t - f).toNat (tkG f.toNat l).2).1 else []) else []

end Go.Proofs.YtjimolafoihnpaaDoor

/-
  The contract of Join.
-/
namespace Go.Proofs.YtjimolafoihnpaaDoor
open Go.WideShapes Go.RowKit Go.ChangeShapes Go.ChangeAt Go.PlainAid

/-- Two documents, one behind the other. -/
def jn2 (a b : List RunD) : List RunD := wtL (wtL [] a) b
/-- May they be joined? -/
def jnB (a b : List RunD) : Bool := ckG [] none a && ckG [] none b && ckG [] none (jn2 a b)
def jnE (a b : List RunD) : Int := if jnB a b = true then 0 else 120
def jnL (a b : List RunD) : List RunD := if jnB a b = true then jn2 a b else []

theorem own_in {w : World} {v : Value} {l : List RunD} (h : RdN w v l) (hn : l ≠ []) : ∀ g, v.ownBlock = some g → g < w.heap.size := by
  intro g hg
  cases l with
  | nil => exact absurd rfl hn
  | cons r l =>
    obtain ⟨ao, cp, rfl, -, hc⟩ := h
    obtain ⟨b, o, rfl, hb, -⟩ := hc 0 r rfl
    simp [Value.ownBlock] at hg
    omega

end Go.Proofs.YtjimolafoihnpaaDoor

/-
  The contract of At.
-/
namespace Go.Proofs.YtjimolafoihnpaaDoor
open Go.WideShapes Go.RowKit Go.ChangeShapes Go.ChangeAt Go.PlainAid

theorem results_c3 {P : Program} {fn : Func} {p a b : Tmp} {ty : TypeId} (h : fn.results = #[.cell p ty, .tmp a, .tmp b]) (tmps : Array Value) (w : World) (g : Nat) (t : TypeId) (cs : Array Value) (fr : Nat × Nat) (d : TypeDesc)
    (hp : tmps.getD p undef = .pointer (some ⟨g, 0, none⟩)) (hg : w.heap[g]? = some (.cells cs t fr))
    (hu : P.underlying ty = some d) (hd : (match d with | .struct _ | .array _ _ => true | _ => false) = true) (hi : (P.info? ty).map (·.size) = some cs.size) (x y : Value) (hx : tmps.getD a undef = x) (hy : tmps.getD b undef = y) :
    (results fn tmps).run P w = .ok (.tuple #[.agg cs, x, y]) w := by
  have hp' : tmps[p]?.getD undef = .pointer (some ⟨g, 0, none⟩) := by simpa using hp
  have hx' : tmps[a]?.getD undef = x := by simpa using hx
  have hy' : tmps[b]?.getD undef = y := by simpa using hy
  simp [results, h, hp', hx', hy', asAddr, run_loadVar_row w g t ty cs fr d hg hu hd hi]

/-- Where atom i is. -/
def atF : List RunD → Int → Int × Int × Int × Bool
  | [], _ => (0, 0, 0, false)
  | r :: l, i => if i < cpl r.t then (r.c, r.q, r.f + i, true) else atF l (i - cpl r.t)
/-- What At answers. -/
def atR (l : List RunD) (i : Int) : Int × Int × Int × Bool := if ckG [] none l = true ∧ 0 ≤ i then atF l i else (0, 0, 0, false)
/-- .. as a value. -/
def atA (x : Int × Int × Int × Bool) : Value := .tuple #[.agg #[.int .i64 x.1, .int .i64 x.2.1], .int .i64 x.2.2.1, .bool x.2.2.2]
theorem Tryd.sizeOr : (Tryd.prog.info? 29).map (·.size) = some 2 := by kernel_rfl
/-- An origin's box. -/
def OB (W : World) (b : Nat) (c q : Int) : Prop := W.heap[b]? = some (.cells #[.int .i64 c, .int .i64 q] 29)
theorem OB.below {W W' : World} {b : Nat} {c q : Int} (h : OB W b c q) (hb : Below W.heap.size W W') : OB W' b c q := (hb.block b (heap_lt h)).trans h
theorem OB.set {W : World} {b : Nat} {c q : Int} (h : OB W b c q) (c' q' : Int) : OB ((W.setCell ⟨b, 0, none⟩ (.int .i64 c')).setCell ⟨b, 1, none⟩ (.int .i64 q')) b c' q' := heap_setCell (heap_setCell h 0 _) 1 _
theorem OB.facts {W : World} {b : Nat} {c q : Int} (h : OB W b c q) : W.cell? ⟨b, 0, none⟩ = some (.int .i64 c) ∧ W.cell? ⟨b, 1, none⟩ = some (.int .i64 q) ∧ W.frozen? ⟨b, 0, none⟩ = false ∧ W.frozen? ⟨b, 1, none⟩ = false :=
  ⟨cell_of_row _ _ 0 _ _ (0, 0) h, cell_of_row _ _ 1 _ _ (0, 0) h, frz h 0, frz h 1⟩
theorem bl_set2 {B : Nat} {W X : World} {b : Nat} (h : Below B W X) (hb : B ≤ b) (x y : Value) : Below B W ((X.setCell ⟨b, 0, none⟩ x).setCell ⟨b, 1, none⟩ y) :=
  (h.setCell (p := ⟨b, 0, none⟩) hb x).setCell (p := ⟨b, 1, none⟩) hb y

end Go.Proofs.YtjimolafoihnpaaDoor

/-
  The contract of slices.ContainsFunc with the function that Apply hands to it.
-/
namespace Go.Proofs.YtjimolafoihnpaaDoor
open Go.WideShapes Go.RowKit Go.ChangeShapes Go.ChangeAt Go.PlainAid

/-- Is a run of this origin? -/
def orQ (c q : Int) (r : RunD) : Bool := decide (r.c = c) && decide (r.q = q)

set_option maxRecDepth 20000 in
set_option maxHeartbeats 1000000 in
theorem apply1_any (r : RunD) (b : Nat) (c q : Int) (w : World) (hO : OB w b c q) :
    Calls Tryd.prog 22 #[r.v, .pointer (some ⟨b, 0, none⟩)] w fun e w' => e = .returned (.bool (orQ c q r)) ∧ Below w.heap.size w w' := by
  have hx : RB (w.alloc (.cells #[.int .i64 r.c, .int .i64 r.q, .int .i64 r.f, .string r.t] 44)) w.heap.size r := heap_alloc_new w _
  have hb : Below w.heap.size w (w.alloc (.cells #[.int .i64 r.c, .int .i64 r.q, .int .i64 r.f, .string r.t] 44)) := (Below.refl _ w).alloc (Nat.le_refl _) _
  have hO1 := hO.below hb
  obtain ⟨c0, c1, c2, c3⟩ := hx.cells
  obtain ⟨d0, d1, -, -⟩ := hO1.facts
  unfold RunD.v
  by_cases h1 : r.c = c
  · by_cases h2 : r.q = q
    · have HF : Hid (orQ c q r = true) := by show _ = _; simp [orQ, h1, h2]
      subst h1 h2
      clear hO hO1 hx
      go_enter Tryd.func22, Tryd.ntmps22
      go_wp2_with fail
      go_ret
      exact ⟨ret_b HF.out.symm, hb⟩
    · have HF : Hid (orQ c q r = false) := by show _ = _; simp [orQ, h2]
      have h2' : (r.q == q) = false := beq_eq_false_iff_ne.2 h2
      subst h1
      clear hO hO1 hx
      go_enter Tryd.func22, Tryd.ntmps22
      go_wp2_with fail
      go_ret
      exact ⟨ret_b HF.out.symm, hb⟩
  · have HF : Hid (orQ c q r = false) := by show _ = _; simp [orQ, h1]
    have h1' : (r.c == c) = false := beq_eq_false_iff_ne.2 h1
    clear hO hO1 hx
    go_enter Tryd.func22, Tryd.ntmps22
    go_wp2_with fail
    go_ret
    exact ⟨ret_b HF.out.symm, hb⟩

set_option maxRecDepth 20000 in
set_option maxHeartbeats 1000000 in
theorem index_any (v : Value) (l : List RunD) (b : Nat) (c q : Int) (w : World) (hr : RdN w v l) (hm : l.length ≤ 1125899906842624) (hO : OB w b c q) :
    Calls Tryd.prog 47 #[v, .func (.func 22) #[] #[.pointer (some ⟨b, 0, none⟩)]] w fun e w' => ∃ z : Int, e = .returned (.int .i64 z) ∧ decide (0 ≤ z) = l.any (orQ c q) ∧ Below w.heap.size w w' := by
  obtain ⟨ao, cp, hv, -⟩ := id hr
  subst hv
  go_enter Tryd.func47, Tryd.ntmps47
  go_wp2_with fail
  go_loopw [8] (fun i wr => ∃ (k : Nat), k ≤ l.length ∧ i = .int .i64 (k : Int) ∧ l.any (orQ c q) = (l.drop k).any (orQ c q) ∧ Below w.heap.size w wr) (fun i _ => l.length - (intOf i).toNat)
  case atStart => exact ⟨0, Nat.zero_le _, rfl, by simp, Below.refl _ _⟩
  case round =>
    obtain ⟨k, hk, rfl, he, hB⟩ := hrel
    have HE : Hid (l.any (orQ c q) = (l.drop k).any (orQ c q)) := he
    clear he
    by_cases hlt : k < l.length
    · have hlt' : (k : Int) < (l.length : Int) := by omega
      obtain ⟨bb, off, e1, -, e2, e3, e4, e5⟩ := (hr.below hB).at k l[k] (by simp [hlt])
      have HD : Hid ((l.drop k).any (orQ c q) = (orQ c q l[k] || (l.drop (k + 1)).any (orQ c q))) := by show _ = _; rw [drop_one hlt]; rfl
      generalize l[k] = r at *
      subst e1
      have hc := apply1_any r b c q wr (hO.below hB)
      unfold RunD.v at hc
      clear hr hO
      cases hq : orQ c q r
      · have HF : Hid (l.any (orQ c q) = (l.drop (k + 1)).any (orQ c q)) := by show _ = _; rw [HE.out, HD.out, hq]; rfl
        rw [hq] at hc
        clear HE HD hq
        go_wp2_with fail
        refine hc.mono ?_
        rintro e w1 ⟨rfl, hb1⟩
        go_wp2_with fail
        refine ⟨⟨k + 1, by omega, by simp, HF.out, chain hB hb1⟩, ?_⟩
        simp [intOf]
        omega
      · have HF : Hid (l.any (orQ c q) = true) := by show _ = _; rw [HE.out, HD.out, hq]; rfl
        rw [hq] at hc
        clear HE HD hq
        go_wp2_with fail
        refine hc.mono ?_
        rintro e w1 ⟨rfl, hb1⟩
        go_wp2_with fail
        go_ret
        exact ⟨(k : Int), rfl, by rw [HF.out]; simp, chain hB hb1⟩
    · obtain rfl : k = l.length := by omega
      have HF : Hid (l.any (orQ c q) = false) := by show _ = _; rw [HE.out, List.drop_length]; rfl
      clear HE hr hO
      go_wp2_with fail
      go_ret
      exact ⟨-1, rfl, by rw [HF.out]; rfl, hB⟩

set_option maxRecDepth 20000 in
set_option maxHeartbeats 1000000 in
theorem contains_any (v : Value) (l : List RunD) (b : Nat) (c q : Int) (w : World) (hr : RdN w v l) (hm : l.length ≤ 1125899906842624) (hO : OB w b c q) :
    Calls Tryd.prog 21 #[v, .func (.func 22) #[] #[.pointer (some ⟨b, 0, none⟩)]] w fun e w' => e = .returned (.bool (l.any (orQ c q))) ∧ Below w.heap.size w w' := by
  have hI := index_any v l b c q w hr hm hO
  obtain ⟨ao, cp, hv, -⟩ := id hr
  subst hv
  clear hr hO
  go_enter Tryd.func21, Tryd.ntmps21
  go_wp2_with (go_at_call 47; refine hI.mono ?_; rintro e w1 ⟨z, rfl, hz, hb1⟩)
  go_ret
  exact ⟨rfl, hb1⟩
end Go.Proofs.YtjimolafoihnpaaDoor

/-
  What a delta makes of a document, as data.
-/
namespace Go.Proofs.YtjimolafoihnpaaDoor
open Go.WideShapes Go.RowKit Go.ChangeShapes Go.ChangeAt Go.PlainAid

/-- What became so far, the rest, the next number, the steps to come; what is put in has the origin c, q. -/
def adR (c q : Int) : List RunD → List RunD → Int → List St → List RunD
  | X, _, _, [] => X
  | X, L, n, .keep k :: l => adR c q (wtL X (tkG k L).1) (tkG k L).2 n l
  | X, L, n, .rem k :: l => adR c q X (tkG k L).2 n l
  | X, L, n, .ins t :: l => adR c q (wtL X [⟨c, q, n, t⟩]) L (n + cpl t) l
/-- .. of atoms. -/
def apA (c q : Int) : List Atm → Int → List St → List Atm
  | _, _, [] => []
  | A, n, .keep k :: l => A.take k ++ apA c q (A.drop k) n l
  | A, n, .rem k :: l => apA c q (A.drop k) n l
  | A, n, .ins t :: l => atG c q n (pts t) ++ apA c q A (n + cpl t) l
theorem adR_ats (c q : Int) : ∀ (ds : List St) (X L : List RunD) (n : Int), Can X → (∀ r ∈ L, r.Ok) → (∀ s ∈ ds, s.Ok) → Can (adR c q X L n ds) ∧ ats (adR c q X L n ds) = ats X ++ apA c q (ats L) n ds
  | [], X, L, n, hX, _, _ => ⟨hX, by simp [adR, apA]⟩
  | .keep k :: ds, X, L, n, hX, hL, hd => by
    obtain ⟨a1, a2, a3, a4⟩ := tkG_ats L k hL
    obtain ⟨b1, b2⟩ := wtL_can hX a3
    obtain ⟨h1, h2⟩ := adR_ats c q ds (wtL X (tkG k L).1) (tkG k L).2 n b1 a4 (fun s hs => hd s (by simp [hs]))
    rw [adR, apA, h2, b2, a1, a2, List.append_assoc]
    exact ⟨h1, rfl⟩
  | .rem k :: ds, X, L, n, hX, hL, hd => by
    obtain ⟨a1, a2, a3, a4⟩ := tkG_ats L k hL
    obtain ⟨h1, h2⟩ := adR_ats c q ds X (tkG k L).2 n hX a4 (fun s hs => hd s (by simp [hs]))
    rw [adR, apA, h2, a2]
    exact ⟨h1, rfl⟩
  | .ins t :: ds, X, L, n, hX, hL, hd => by
    have ht : (⟨c, q, n, t⟩ : RunD).Ok := (hd (.ins t) (by simp)).1
    obtain ⟨b1, b2⟩ := wtL_can (more := [⟨c, q, n, t⟩]) hX (fun r hr => by simp at hr; subst hr; exact ht)
    obtain ⟨h1, h2⟩ := adR_ats c q ds (wtL X [⟨c, q, n, t⟩]) L (n + cpl t) b1 hL (fun s hs => hd s (by simp [hs]))
    rw [adR, apA, h2, b2, List.append_assoc]
    refine ⟨h1, ?_⟩
    rw [ats_cons, ats_nil, List.append_nil]
    rfl

theorem tkG_sum : ∀ (L : List RunD) (n : Nat), (∀ r ∈ L, r.Ok) → (txB (tkG n L).1).length + (txB (tkG n L).2).length = (txB L).length ∧ (tkG n L).1.length + (tkG n L).2.length ≤ L.length + 1
  | [], n, _ => by simp [tkG, txB]
  | r :: L, n, h => by
    by_cases h0 : n = 0
    · subst h0
      rw [tkG_zero]
      simp [txB]
    · by_cases hk : r.k ≤ n
      · obtain ⟨a1, a2⟩ := tkG_sum L (n - r.k) (fun x hx => h x (by simp [hx]))
        rw [tkG_all h0 hk, show r :: L = [r] ++ L from rfl, show r :: (tkG (n - r.k) L).1 = [r] ++ (tkG (n - r.k) L).1 from rfl, txB_append, txB_append]
        simp only [List.length_append, List.length_cons, List.length_nil]
        omega
      · have hk' : n < r.k := by omega
        have hr : r.Ok := h r (by simp)
        have hv := cpl_valid (s := r.t) (by unfold RunD.Ok at hr; omega)
        have hp := (pos_le hv.1 (min n (cpl r.t).toNat) (Nat.min_le_right _ _)).2
        have s1 : (r.hd n).t.size = pos r.t (min n (cpl r.t).toNat) := by
          show (r.t.extract _ _).size = _
          rw [ByteArray.size_extract]
          omega
        have s2 : (r.tl n).t.size = r.t.size - pos r.t (min n (cpl r.t).toNat) := by
          show (r.t.extract _ _).size = _
          rw [ByteArray.size_extract]
          omega
        have e : ∀ x : RunD, x.t.data.toList.length = x.t.size := fun x => by rw [Array.length_toList]; rfl
        rw [tkG_part h0 hk', show r :: L = [r] ++ L from rfl, show r.tl n :: L = [r.tl n] ++ L from rfl, txB_append, txB_append, txB_one, txB_one, txB_one]
        simp only [List.length_append, List.length_cons, List.length_nil, e, s1, s2]
        omega
/-- How many code points are put in. -/
def isum : List St → Int
  | [] => 0
  | .ins t :: l => cpl t + isum l
  | _ :: l => isum l
theorem isum_pos : ∀ {ds : List St}, (∀ s ∈ ds, s.Ok) → 0 ≤ isum ds
  | [], _ => by simp [isum]
  | .keep k :: ds, h => isum_pos (ds := ds) (fun s hs => h s (by simp [hs]))
  | .rem k :: ds, h => isum_pos (ds := ds) (fun s hs => h s (by simp [hs]))
  | .ins t :: ds, h => by
    have h1 := isum_pos (ds := ds) (fun s hs => h s (by simp [hs]))
    have h2 := (h (.ins t) (by simp)).1
    rw [isum]
    omega
end Go.Proofs.YtjimolafoihnpaaDoor

/-
  The contract of applied.
-/
namespace Go.Proofs.YtjimolafoihnpaaDoor
open Go.WideShapes Go.RowKit Go.ChangeShapes Go.ChangeAt Go.PlainAid

/-- applied on its way. -/
structure AI (w W : World) (B p g : Nat) (c q : Int) (E : List RunD) (N : Nat) (D : List St) (X L : List RunD) (n : Int) (vv u : Value) : Prop where
  eq : E = adR c q X L n D
  own : W.ownsRow B 44 4 u X.length (rcs X)
  tk : Tk W p g vv L
  bl : Below w.heap.size w W
  ob : OB W w.heap.size c q
  le : B ≤ W.heap.size
  fit : ∀ r ∈ L, r.Fit
  wf : ∀ r ∈ X, r.Wf
  ln : X.length + L.length ≤ N
  tx : ((txB X).length : Int) + (txB L).length + 4 * isum D ≤ 8000
  nm : 0 ≤ n ∧ n + isum D ≤ 1000
theorem AI.below {w W W' : World} {B p g : Nat} {c q : Int} {E : List RunD} {N : Nat} {D : List St} {X L : List RunD} {n : Int} {vv u : Value} (h : AI w W B p g c q E N D X L n vv u) (hb : Below W.heap.size W W') : AI w W' B p g c q E N D X L n vv u :=
  ⟨h.eq, own_belowG h.own hb, h.tk.only (Only.of_below (S := []) hb) (by simp) (by simp), chain h.bl hb, h.ob.below hb, Nat.le_trans h.le hb.size, h.fit, h.wf, h.ln, h.tx, h.nm⟩
/-- What a taker took is gone. -/
theorem AI.rem {w W W' : World} {B p g k : Nat} {c q : Int} {E : List RunD} {N : Nat} {D : List St} {X L : List RunD} {n : Int} {vv v1 u : Value} (h : AI w W B p g c q E N (.rem k :: D) X L n vv u) (hp : w.heap.size < p ∧ p < B) (hg : w.heap.size < g ∧ g < B) (ht : Tk W' p g v1 (tkG k L).2) (ho : Only [p, g] W W') (hf : ∀ r ∈ (tkG k L).2, r.Fit) :
    AI w W' B p g c q E N D X (tkG k L).2 n v1 u := by
  obtain ⟨f1, f2, f3, f4, f5⟩ := tkG_facts L k h.fit
  have h1 := h.ln
  have h2 := h.tx
  have hs := h.bl.size
  simp only [isum] at h2
  exact ⟨h.eq, own_only h.own ho (fun x hx => by have := (h.own.lt x hx).1; simp; omega), ht, h.bl.trans (ho.below hs (by simp; omega)), only_heap h.ob ho (by simp; omega), Nat.le_trans h.le ho.size, hf, h.wf, by omega, by omega, h.nm⟩
/-- What it took is behind the rest. -/
theorem AI.keep {w W W1 W2 : World} {B p g k : Nat} {c q : Int} {E : List RunD} {N : Nat} {D : List St} {X L : List RunD} {n : Int} {vv v1 u u2 : Value} (h : AI w W B p g c q E N (.keep k :: D) X L n vv u) (hp : w.heap.size < p ∧ p < B) (hg : w.heap.size < g ∧ g < B) (ht : Tk W1 p g v1 (tkG k L).2) (ho : Only [p, g] W W1) (hf : ∀ r ∈ (tkG k L).2, r.Fit) (hw : WI W1 W2 B (wtL X (tkG k L).1) u u2) :
    AI w W2 B p g c q E (N + 1) D (wtL X (tkG k L).1) (tkG k L).2 n v1 u2 := by
  obtain ⟨f1, f2, f3, f4, f5⟩ := tkG_facts L k h.fit
  obtain ⟨s1, s2⟩ := tkG_sum L k (fun r hr => (h.fit r hr).ok)
  have h1 := h.ln
  have h2 := h.tx
  have hs := h.bl.size
  have hl := wtL_len (tkG k L).1 X
  have htx := txB_wtL (tkG k L).1 X
  simp only [isum] at h2
  have hub : ∀ x, x ∈ u.ownBlock.toList → B ≤ x := fun x hx => by simp only [Option.mem_toList] at hx; exact (h.own.lt x hx).1
  have hB1 := h.bl.trans (ho.below hs (by simp; omega))
  have hni : ∀ x, x < B → x ∉ u.ownBlock.toList := fun x hx hm => by have := hub x hm; omega
  have ob1 : OB W1 w.heap.size c q := only_heap h.ob ho (by simp; omega)
  refine ⟨h.eq, hw.own, ht.only hw.on (hni _ hp.2) (hni _ hg.2), hB1.trans (hw.on.below hB1.size (fun x hx => by have := hub x hx; omega)), only_heap ob1 hw.on (hni _ (by omega)), Nat.le_trans h.le (Nat.le_trans ho.size hw.on.size), hf, wtL_wf h.wf f1, by omega, ?_, h.nm⟩
  rw [htx, List.length_append]
  omega
/-- What is put in is behind the rest. -/
theorem AI.ins {w W W2 : World} {B p g : Nat} {c q : Int} {E : List RunD} {N : Nat} {D : List St} {X L : List RunD} {n : Int} {t : ByteArray} {vv u u2 : Value} (h : AI w W B p g c q E N (.ins t :: D) X L n vv u) (hp : w.heap.size < p ∧ p < B) (hg : w.heap.size < g ∧ g < B) (ht : 0 < cpl t) (hD : ∀ s ∈ D, s.Ok) (hw : WI W W2 B (wtL X [⟨c, q, n, t⟩]) u u2) :
    AI w W2 B p g c q E (N + 1) D (wtL X [⟨c, q, n, t⟩]) L (n + cpl t) vv u2 := by
  have h1 := h.ln
  have h2 := h.tx
  have h3 := h.nm
  have hs := h.bl.size
  have hl := wtL_len [⟨c, q, n, t⟩] X
  have htx := txB_wtL [⟨c, q, n, t⟩] X
  have hip := isum_pos hD
  have hsz := size_cpl ht
  simp only [isum] at h2 h3
  simp only [List.length_cons, List.length_nil] at hl
  have hub : ∀ x, x ∈ u.ownBlock.toList → B ≤ x := fun x hx => by simp only [Option.mem_toList] at hx; exact (h.own.lt x hx).1
  have hni : ∀ x, x < B → x ∉ u.ownBlock.toList := fun x hx hm => by have := hub x hm; omega
  have e : t.data.toList.length = t.size := by rw [Array.length_toList]; rfl
  refine ⟨h.eq, hw.own, h.tk.only hw.on (hni _ hp.2) (hni _ hg.2), h.bl.trans (hw.on.below hs (fun x hx => by have := hub x hx; omega)), only_heap h.ob hw.on (hni _ (by omega)), Nat.le_trans h.le hw.on.size, h.fit, wtL_wf h.wf (fun r hr => ?_), by omega, ?_, by omega⟩
  · simp at hr
    subst hr
    exact ⟨ht, h3.1, by show n ≤ _; omega⟩
  · rw [htx, txB_one, List.length_append, e]
    omega
end Go.Proofs.YtjimolafoihnpaaDoor

/-
  The contract of applied.
-/
namespace Go.Proofs.YtjimolafoihnpaaDoor
open Go.WideShapes Go.RowKit Go.ChangeShapes Go.ChangeAt Go.PlainAid

theorem rdd_at {w : World} {ao : Option Addr} {m cp : Nat} {l : List OpD} (h : RdD w (.slice ao m cp) l) (i : Nat) (o : OpD) (ho : l[i]? = some o) : ∃ b off, ao = some ⟨b, off, none⟩ ∧
    w.cell? ⟨b, off + i * 3, none⟩ = some (.int .i64 o.k) ∧ w.cell? ⟨b, off + i * 3 + 1, none⟩ = some (.int .i64 o.n) ∧ w.cell? ⟨b, off + i * 3 + 2, none⟩ = some (.string o.t) := by
  obtain ⟨ao', cp', e, _, h1⟩ := h
  injection e with e1 e2 e3
  subst e1
  obtain ⟨b, off, e4, _, c0, c1, c2⟩ := h1 i o ho
  exact ⟨b, off, e4, c0, c1, c2⟩
theorem AI.more {w W : World} {B p g : Nat} {c q : Int} {E : List RunD} {N N' : Nat} {D : List St} {X L : List RunD} {n : Int} {vv u : Value} (h : AI w W B p g c q E N D X L n vv u) (hN : N ≤ N') : AI w W B p g c q E N' D X L n vv u :=
  ⟨h.eq, h.own, h.tk, h.bl, h.ob, h.le, h.fit, h.wf, Nat.le_trans h.ln hN, h.tx, h.nm⟩
theorem drop_st {ds : List St} {k : Nat} (h : k < ds.length) : ds.drop k = ds[k] :: ds.drop (k + 1) := List.drop_eq_getElem_cons h

set_option maxRecDepth 20000 in
set_option maxHeartbeats 1000000 in
theorem docApplied_any (v vd : Value) (l : List RunD) (ds : List St) (c q : Int) (w : World) (hV : VS w) (hr : RdN w v l) (hd : RdD w vd (ds.map St.op)) (hfit : ∀ r ∈ l, r.Fit) (hl : l.length ≤ 1000) (htx : (txB l).length ≤ 4000) (hds : ds.length ≤ 3000) (hok : ∀ s ∈ ds, s.Ok) (his : isum ds ≤ 1000) :
    Calls Tryd.prog 23 #[v, vd, .agg #[.int .i64 c, .int .i64 q]] w fun e w' => ∃ u, e = .returned u ∧ w'.ownsRow w.heap.size 44 4 u (adR c q [] l 0 ds).length (rcs (adR c q [] l 0 ds)) ∧ Below w.heap.size w w' := by
  have hb0 : Below w.heap.size w (w.alloc (.cells #[.int .i64 c, .int .i64 q] 29)) := (Below.refl _ w).alloc (Nat.le_refl _) _
  have hO0 : OB (w.alloc (.cells #[.int .i64 c, .int .i64 q] 29)) w.heap.size c q := heap_alloc_new w _
  have htk := taker_any v l _ (hr.below hb0) (by omega)
  rw [World.size_alloc] at htk
  obtain ⟨ao, cp, hv, -⟩ := id hr
  subst hv
  obtain ⟨ao2, cp2, hv2, -⟩ := id hd
  subst hv2
  rw [List.length_map] at *
  clear hr
  go_enter Tryd.func23, Tryd.ntmps23
  go_wp2_with (go_at_call 48; refine htk.mono ?_; rintro e w1 ⟨p, g, u, rfl, hT, hp, hg1, hg2, hb1⟩; have hI : AI w w1 w1.heap.size p g c q (adR c q [] l 0 ds) (l.length + 0) ds [] l 0 u (.slice none 0 0) := (by refine ⟨rfl, World.ownsRow_nil _ _ _ _, hT, hb0.trans (hb1.mono (by omega)), (hb1.block _ (by omega)).trans hO0, Nat.le_refl _, hfit, (by simp), (by simp), (by simp [txB_nil]; omega), (by omega)⟩); have hpp : w.heap.size < p ∧ p < w1.heap.size := ⟨by omega, heap_lt hT.c⟩; have hgg : w.heap.size < g ∧ g < w1.heap.size := ⟨by omega, hg2⟩; clear hT hb1 hp hg1 hg2)
  clear htk hO0 hb0
  have hwB : w.heap.size ≤ w1.heap.size := by omega
  generalize w1.heap.size = B at *
  go_loopw [8, 9, 16] (fun x m i wr => ∃ (k : Nat) (X L : List RunD) (n : Int) (vv : Value), k ≤ ds.length ∧ i = .int .i64 (k : Int) ∧ m = .int .i64 n ∧ AI w wr B p g c q (adR c q [] l 0 ds) (l.length + k) (ds.drop k) X L n vv x) (fun _ _ i _ => ds.length - (intOf i).toNat)
  case atStart => exact ⟨0, [], l, 0, u, Nat.zero_le _, rfl, rfl, hI⟩
  case round =>
    obtain ⟨k, X, L, n, vv, hk, rfl, rfl, hJ⟩ := hrel
    clear hI
    obtain ⟨a1, c1, rfl⟩ := own_form hJ.own
    by_cases hlt : k < ds.length
    · have hlt' : (k : Int) < (ds.length : Int) := by omega
      rw [drop_st hlt] at hJ
      have hso := hok ds[k] (List.getElem_mem hlt)
      obtain ⟨bb, off, e1, e2, e3, e4⟩ := rdd_at (hd.below hJ.bl) k ds[k].op (by simp [hlt])
      have hDo : ∀ s ∈ ds.drop (k + 1), s.Ok := fun s hs => hok s (List.mem_of_mem_drop hs)
      generalize ds[k] = s at *
      subst e1
      have hJ1 := hJ.below ((Below.refl _ wr).alloc (Nat.le_refl _) (.cells #[.int .i64 s.op.k, .int .i64 s.op.n, .string s.op.t] 106))
      have hx : (wr.alloc (.cells #[.int .i64 s.op.k, .int .i64 s.op.n, .string s.op.t] 106)).heap[wr.heap.size]? = some (.cells #[.int .i64 s.op.k, .int .i64 s.op.n, .string s.op.t] 106) := heap_alloc_new wr _
      have x0 := cell_of_row _ _ 0 _ _ (0, 0) hx
      have x1 := cell_of_row _ _ 1 _ _ (0, 0) hx
      have x2 := cell_of_row _ _ 2 _ _ (0, 0) hx
      simp at x0 x1 x2
      have hB1 := hJ1.bl
      have hs1 := hB1.size
      have hle1 := hJ1.le
      have hln := hJ1.ln
      have htx1 := hJ1.tx
      have hnm1 := hJ1.nm
      have hip := isum_pos hDo
      cases s with
      | keep m =>
        simp only [St.op] at *
        have hto := taken_any w hV p g m vv L _ hB1 (by omega) ⟨by omega, by omega⟩ hJ1.tk hJ1.fit (by have := hso.2; omega) (by omega)
        obtain ⟨f1, f2, f3, f4, f5⟩ := tkG_facts L m hJ1.fit
        simp only [isum] at htx1 hnm1
        clear hJ hd
        go_wp2_with fail
        refine hto.mono ?_
        rintro e w2 ⟨u1, v1, rfl, ho1, hT2, hO2, hF2⟩
        obtain ⟨a2, c2, rfl⟩ := own_form ho1
        have hB2 := hB1.trans (hO2.below hs1 (by simp; omega))
        have hs2 := hO2.size
        have hw := with_any w hV B (.slice a1 X.length c1) (.slice a2 (tkG m L).1.length c2) X (tkG m L).1 w2 hB2 hwB (by omega) (own_only hJ1.own hO2 (fun x hx => by have := (hJ1.own.lt x hx).1; simp; omega)) (rdn_own ho1)
          (fun _ x hx hm => by
            simp only [Option.mem_toList] at hm
            have q1 := (ho1.lt x hx).1
            have q2 := (hJ1.own.lt x hm).2
            omega) (by omega) (by omega) hJ1.wf f1
        clear ho1 hto
        go_wp2_with fail
        refine hw.mono ?_
        rintro e w3 ⟨u3, rfl, h3⟩
        have hf := hJ1.keep hpp hgg hT2 hO2 hF2 h3
        obtain ⟨a3, c3, rfl⟩ := own_form h3.own
        clear hw
        go_wp2_with fail
        refine ⟨⟨k + 1, _, _, n, v1, by omega, by simp, rfl, hf⟩, ?_⟩
        simp [intOf]
        omega
      | rem m =>
        simp only [St.op] at *
        have hto := taken_any w hV p g m vv L _ hB1 (by omega) ⟨by omega, by omega⟩ hJ1.tk hJ1.fit (by have := hso.2; omega) (by omega)
        clear hJ hd
        go_wp2_with fail
        refine hto.mono ?_
        rintro e w2 ⟨u1, v1, rfl, ho1, hT2, hO2, hF2⟩
        have hf := (hJ1.rem hpp hgg hT2 hO2 hF2).more (N' := l.length + (k + 1)) (by omega)
        clear hto ho1
        go_wp2_with fail
        refine ⟨⟨k + 1, _, _, n, v1, by omega, by simp, rfl, hf⟩, ?_⟩
        simp [intOf]
        omega
      | ins t =>
        simp only [St.op] at *
        simp only [isum] at htx1 hnm1
        have hto := hso.1
        have hsz := hso.2
        have hcl := size_cpl hto
        obtain ⟨d0, d1, -, -⟩ := hJ1.ob.facts
        have hJ2 := hJ1.below ((Below.refl _ _).alloc (Nat.le_refl _) (c4 ⟨c, q, n, t⟩))
        have hRd := rdn_new (wr.alloc (.cells #[.int .i64 2, .int .i64 0, .string t] 106)) ⟨c, q, n, t⟩
        rw [World.size_alloc] at hRd
        have hxl : ∀ x, (Value.slice a1 X.length c1).ownBlock = some x → x < wr.heap.size := fun x hx => (hJ.own.lt x hx).2
        have hw := with_any w hV B (.slice a1 X.length c1) (.slice (some ⟨wr.heap.size + 1, 0, none⟩) 1 1) X [⟨c, q, n, t⟩] _ hJ2.bl hwB hJ2.le hJ2.own hRd
          (fun _ x hx hm => by
            simp only [Option.mem_toList] at hm
            have q1 := hxl x hm
            simp [Value.ownBlock] at hx
            omega) (by simp; omega) (by rw [txB_one, show t.data.toList.length = t.size by rw [Array.length_toList]; rfl]; omega) hJ2.wf (fun r hr => by simp at hr; subst hr; exact ⟨hto, hnm1.1, by show n ≤ _; omega⟩)
        have hx2 := (Below.heap_alloc (wr.alloc (.cells #[.int .i64 2, .int .i64 0, .string t] 106)) (c4 ⟨c, q, n, t⟩) wr.heap.size (by simp)).trans hx
        unfold c4 at hw hx2
        clear hd
        go_wp2_with fail
        refine hw.mono ?_
        rintro e w3 ⟨u3, rfl, h3⟩
        have hf := hJ2.ins hpp hgg hto hDo h3
        have hx3 := only_heap hx2 h3.on (fun hm => by
          simp only [Option.mem_toList] at hm
          have := hxl _ hm
          omega)
        have y2 := cell_of_row _ _ 2 _ _ (0, 0) hx3
        simp at y2
        have hcn := count_any t w3 (hV.below hf.bl) (by omega)
        obtain ⟨a3, c3, rfl⟩ := own_form h3.own
        clear hw hx3 hx2 hx
        go_wp2_with (go_at_call 43; refine hcn.mono ?_; rintro e w4 ⟨rfl, hb4⟩; have hf4 := hf.below hb4)
        refine ⟨⟨k + 1, _, L, n + cpl t, vv, by omega, by simp, rfl, hf4⟩, ?_⟩
        simp [intOf]
        omega
    · obtain rfl : k = ds.length := by omega
      rw [List.drop_length] at hJ
      have HE : Hid (adR c q [] l 0 ds = X) := hJ.eq
      go_wp2_with fail
      go_ret
      rw [HE.out]
      exact ⟨_, rfl, own_lower hJ.own hwB, hJ.bl⟩
end Go.Proofs.YtjimolafoihnpaaDoor

/-
  The contract of Apply.
-/
namespace Go.Proofs.YtjimolafoihnpaaDoor
open Go.WideShapes Go.RowKit Go.ChangeShapes Go.ChangeAt Go.PlainAid

theorem size_nil {t : ByteArray} (h : t.size = 0) : t = ⟨#[]⟩ := by
  apply ByteArray.ext
  exact Array.eq_empty_of_size_eq_zero h
theorem st_back {o : OpD} {s : St} (h : stOf o = some s) : s.op = o := by
  obtain ⟨k, n, t⟩ := o
  unfold stOf at h
  simp only at h
  split at h
  · rename_i h1
    obtain ⟨h1, h2, h3⟩ := h1
    have ht := size_nil h3
    split at h
    · rename_i h4
      injection h with h
      subst h
      subst h4
      subst ht
      show (⟨1, _, _⟩ : OpD) = _
      congr 1
      omega
    · split at h
      · rename_i h4
        injection h with h
        subst h
        subst h4
        subst ht
        show (⟨3, _, _⟩ : OpD) = _
        congr 1
        omega
      · cases h
  · split at h
    · rename_i h4
      injection h with h
      subst h
      obtain ⟨rfl, rfl, -⟩ := h4
      rfl
    · cases h
theorem stl_back : ∀ {ds : List OpD}, ds.any (fun o => (stOf o).isNone) = false → (stl ds).map St.op = ds
  | [], _ => rfl
  | o :: ds, h => by
    simp only [List.any_cons, Bool.or_eq_false_iff] at h
    obtain ⟨h1, h2⟩ := h
    cases hs : stOf o with
    | none => rw [hs] at h1; cases h1
    | some s =>
      have : stl (o :: ds) = s :: stl ds := by simp [stl, hs]
      rw [this, List.map_cons, st_back hs, stl_back h2]
theorem stR_back {ds : List OpD} (h : chk ds = 0) : (stR ds).map St.op = ds := by
  rw [chk_yes ds h]
  apply stl_back
  unfold chk at h
  split at h
  · cases h
  · split at h
    · cases h
    · rename_i h2
      simpa using h2
theorem isum_le : ∀ (ds : List St), (∀ s ∈ ds, s.Ok) → isum ds ≤ tsum ds
  | [], _ => by simp [isum, tsum]
  | s :: ds, h => by
    have ih := isum_le ds (fun x hx => h x (by simp [hx]))
    have e : tsum (s :: ds) = s.c + tsum ds := by simp [tsum]
    rw [e]
    cases s with
    | keep k => simp only [isum]; omega
    | rem k => simp only [isum]; omega
    | ins t =>
      have := (h (.ins t) (by simp)).1
      simp only [isum, St.c]
      omega
end Go.Proofs.YtjimolafoihnpaaDoor

/-
  The contract of Apply.
-/
namespace Go.Proofs.YtjimolafoihnpaaDoor
open Go.WideShapes Go.RowKit Go.ChangeShapes Go.ChangeAt Go.PlainAid

/-- What Apply answers: the error. -/
def dcE (l : List RunD) (ds : List OpD) (c q : Int) : Int :=
  if ckG [] none l = true then (if chk ds = 0 then (if bsum (stR ds) = num l then (if orM c q = true ∧ l.any (orQ c q) = false then 0 else 1) else 91) else chk ds) else 120
/-- .. and the document. -/
def dcL (l : List RunD) (ds : List OpD) (c q : Int) : List RunD :=
  if ckG [] none l = true then (if chk ds = 0 then (if bsum (stR ds) = num l then (if orM c q = true ∧ l.any (orQ c q) = false then adR c q [] l 0 (stR ds) else []) else []) else []) else []

set_option maxRecDepth 20000 in
set_option maxHeartbeats 1000000 in
theorem docApply_any (v vd : Value) (l : List RunD) (ds : List OpD) (c q : Int) (w : World) (hV : VS w) (hr : RdN w v l) (hm : l.length ≤ 1125899906842624) (hi : ∀ r ∈ l, r.In) (hd : RdD w vd ds) (hm2 : ds.length ≤ maxLen) (hi2 : ∀ o ∈ ds, o.In) :
    Calls Tryd.prog 8 #[v, vd, .agg #[.int .i64 c, .int .i64 q]] w fun e w' => ∃ u, e = .returned (.tuple #[u, .int .i64 (dcE l ds c q)]) ∧ w'.ownsRow w.heap.size 44 4 u (dcL l ds c q).length (rcs (dcL l ds c q)) ∧ Below w.heap.size w w' := by
  have hA0 : Below w.heap.size w (w.alloc (.cells #[.int .i64 c, .int .i64 q] 29)) := (Below.refl _ w).alloc (Nat.le_refl _) _
  have hO0 : OB (w.alloc (.cells #[.int .i64 c, .int .i64 q] 29)) w.heap.size c q := heap_alloc_new w _
  have hck := check_any v l _ (hV.below hA0) (hr.below hA0) hm hi
  have hbs : ∀ w1, Below w.heap.size w w1 → _ := fun w1 hb => base_any vd ds w1 (hd.below hb) hm2 hi2
  obtain ⟨ao, cp, hv, -⟩ := id hr
  subst hv
  obtain ⟨ao2, cp2, hv2, -⟩ := id hd
  subst hv2
  cases hg : ckG [] none l with
  | false =>
    have e1 : ckR l = 120 := by unfold ckR; rw [hg]; rfl
    have e2 : Hid (dcE l ds c q = 120 ∧ dcL l ds c q = []) := ⟨by unfold dcE; rw [hg]; rfl, by unfold dcL; rw [hg]; rfl⟩
    rw [e1] at hck
    clear e1 hg hr hd
    go_enter Tryd.func8, Tryd.ntmps8
    go_wp2_with (go_at_call 5; refine hck.mono ?_; rintro e w1 ⟨rfl, hb1⟩)
    go_ret2
    rw [e2.out.1, e2.out.2]
    exact ⟨_, rfl, World.ownsRow_nil _ _ _ _, chain hA0 hb1⟩
  | true =>
    have hG := (good_iff l).1 hg
    rw [ckR_zero.2 hG] at hck
    by_cases hc : chk ds = 0
    · have hbd := hG.bound
      have hlen := docLen_any (.slice ao l.length cp) l
      rw [txt_cpl l (fun r hr => (hG.fit r hr).ok)] at hlen
      have hln : ∀ w1, Below w.heap.size w w1 → Calls Tryd.prog 19 #[.slice ao l.length cp] w1 fun e w' => e = .returned (.int .i64 (num l : Int)) ∧ Below w1.heap.size w1 w' := fun w1 hb => hlen w1 (hV.below hb) (hr.below hb) hm (by omega)
      rw [hc] at hbs
      clear hlen
      have hio := isOrigin_any c q
      have hct : ∀ w1, Below w.heap.size w w1 → OB w1 w.heap.size c q → _ := fun w1 hb hO => contains_any (.slice ao l.length cp) l w.heap.size c q w1 (hr.below hb) hm hO
      have hmf : ∀ (fn : Fn) (first cap : Array Value) (w : World), (Instr.makeFunc fn first cap).run Tryd.prog w = .ok (.func fn first cap) w := fun _ _ _ _ => rfl
      by_cases hb : bsum (stR ds) = num l
      · rw [hb] at hbs
        cases ho : orM c q
        · have e2 : Hid (dcE l ds c q = 1 ∧ dcL l ds c q = []) := ⟨by unfold dcE; rw [hg, if_pos rfl, if_pos hc, if_pos hb, ho]; rfl, by unfold dcL; rw [hg, if_pos rfl, if_pos hc, if_pos hb, ho]; rfl⟩
          rw [ho] at hio
          clear hr hd
          go_enter Tryd.func8, Tryd.ntmps8
          go_wp2_with (first | (go_at_call 5; refine hck.mono ?_; rintro e w1 ⟨rfl, hb1⟩; have hB1 := chain hA0 hb1; have hO1 := hO0.below hb1) | (go_at_call 18; refine (hbs _ hB1).mono ?_; rintro e w2 ⟨rfl, hb2⟩; have hB2 := chain hB1 hb2; have hO2 := hO1.below hb2) | (go_at_call 19; refine (hln _ hB2).mono ?_; rintro e w3 ⟨rfl, hb3⟩; have hB3 := chain hB2 hb3; have hO3 := hO2.below hb3; obtain ⟨d0, d1, -, -⟩ := hO3.facts) | (go_at_call 20; refine (hio w3).mono ?_; rintro e w4 ⟨rfl, hb4⟩; have hB4 := chain hB3 hb4; have hO4 := hO3.below hb4))
          go_ret2
          rw [e2.out.1, e2.out.2]
          exact ⟨_, rfl, World.ownsRow_nil _ _ _ _, hB4⟩
        · rw [ho] at hio
          cases ha : l.any (orQ c q)
          · have e2 : Hid (dcE l ds c q = 0 ∧ dcL l ds c q = adR c q [] l 0 (stR ds)) := ⟨by unfold dcE; rw [hg, if_pos rfl, if_pos hc, if_pos hb, ho, ha]; rfl, by unfold dcL; rw [hg, if_pos rfl, if_pos hc, if_pos hb, ho, ha]; rfl⟩
            rw [ha] at hct
            have hap : ∀ w1, Below w.heap.size w w1 → _ := fun w1 hb => docApplied_any (.slice ao l.length cp) (.slice ao2 ds.length cp2) l (stR ds) c q w1 (hV.below hb) (hr.below hb) (by rw [stR_back hc]; exact hd.below hb) hG.fit hbd.2 hbd.1 (stR_len ds) (stR_ok hi2) (by have h1 := isum_le (stR ds) (stR_ok hi2); have h2 := (stR_bd ds).2; omega)
            clear hr hd
            go_enter Tryd.func8, Tryd.ntmps8
            go_wp2_with (first | (go_at_call 5; refine hck.mono ?_; rintro e w1 ⟨rfl, hb1⟩; have hB1 := chain hA0 hb1; have hO1 := hO0.below hb1) | (go_at_call 18; refine (hbs _ hB1).mono ?_; rintro e w2 ⟨rfl, hb2⟩; have hB2 := chain hB1 hb2; have hO2 := hO1.below hb2) | (go_at_call 19; refine (hln _ hB2).mono ?_; rintro e w3 ⟨rfl, hb3⟩; have hB3 := chain hB2 hb3; have hO3 := hO2.below hb3; obtain ⟨d0, d1, -, -⟩ := hO3.facts) | (go_at_call 20; refine (hio w3).mono ?_; rintro e w4 ⟨rfl, hb4⟩; have hB4 := chain hB3 hb4; have hO4 := hO3.below hb4) | (go_at_call 21; refine (hct _ hB4 hO4).mono ?_; rintro e w5 ⟨rfl, hb5⟩; have hB5 := chain hB4 hb5; have hO5 := hO4.below hb5; obtain ⟨g0, g1, -, -⟩ := hO5.facts) | (go_at_call 23; refine (hap _ hB5).mono ?_; rintro e w6 ⟨u6, rfl, ho6, hb6⟩; obtain ⟨a6, c6, rfl⟩ := own_form ho6))
            go_ret2
            rw [e2.out.1, e2.out.2]
            exact ⟨_, rfl, own_lower ho6 hB5.size, chain hB5 hb6⟩
          · have e2 : Hid (dcE l ds c q = 1 ∧ dcL l ds c q = []) := ⟨by unfold dcE; rw [hg, if_pos rfl, if_pos hc, if_pos hb, ho, ha]; rfl, by unfold dcL; rw [hg, if_pos rfl, if_pos hc, if_pos hb, ho, ha]; rfl⟩
            rw [ha] at hct
            clear hr hd
            go_enter Tryd.func8, Tryd.ntmps8
            go_wp2_with (first | (go_at_call 5; refine hck.mono ?_; rintro e w1 ⟨rfl, hb1⟩; have hB1 := chain hA0 hb1; have hO1 := hO0.below hb1) | (go_at_call 18; refine (hbs _ hB1).mono ?_; rintro e w2 ⟨rfl, hb2⟩; have hB2 := chain hB1 hb2; have hO2 := hO1.below hb2) | (go_at_call 19; refine (hln _ hB2).mono ?_; rintro e w3 ⟨rfl, hb3⟩; have hB3 := chain hB2 hb3; have hO3 := hO2.below hb3; obtain ⟨d0, d1, -, -⟩ := hO3.facts) | (go_at_call 20; refine (hio w3).mono ?_; rintro e w4 ⟨rfl, hb4⟩; have hB4 := chain hB3 hb4; have hO4 := hO3.below hb4) | (go_at_call 21; refine (hct _ hB4 hO4).mono ?_; rintro e w5 ⟨rfl, hb5⟩; have hB5 := chain hB4 hb5; have hO5 := hO4.below hb5; obtain ⟨g0, g1, -, -⟩ := hO5.facts))
            go_ret2
            rw [e2.out.1, e2.out.2]
            exact ⟨_, rfl, World.ownsRow_nil _ _ _ _, hB5⟩
      · have e2 : Hid (dcE l ds c q = 91 ∧ dcL l ds c q = []) := ⟨by unfold dcE; rw [hg, if_pos rfl, if_pos hc, if_neg hb], by unfold dcL; rw [hg, if_pos rfl, if_pos hc, if_neg hb]⟩
        have hbn : ((bsum (stR ds) : Int) != (num l : Int)) = true := by rw [bne_iff_ne]; omega
        clear hr hd
        go_enter Tryd.func8, Tryd.ntmps8
        go_wp2_with (first | (go_at_call 5; refine hck.mono ?_; rintro e w1 ⟨rfl, hb1⟩; have hB1 := chain hA0 hb1; have hO1 := hO0.below hb1) | (go_at_call 18; refine (hbs _ hB1).mono ?_; rintro e w2 ⟨rfl, hb2⟩; have hB2 := chain hB1 hb2; have hO2 := hO1.below hb2) | (go_at_call 19; refine (hln _ hB2).mono ?_; rintro e w3 ⟨rfl, hb3⟩; have hB3 := chain hB2 hb3; have hO3 := hO2.below hb3; obtain ⟨d0, d1, -, -⟩ := hO3.facts))
        go_ret2
        rw [e2.out.1, e2.out.2]
        exact ⟨_, rfl, World.ownsRow_nil _ _ _ _, hB3⟩
    · have e2 : Hid (dcE l ds c q = chk ds ∧ dcL l ds c q = []) := ⟨by unfold dcE; rw [hg, if_pos rfl, if_neg hc], by unfold dcL; rw [hg, if_pos rfl, if_neg hc]⟩
      have hc' : (chk ds != 0) = true := by simpa using hc
      rw [chk_no ds hc] at hbs
      clear hr hd
      go_enter Tryd.func8, Tryd.ntmps8
      go_wp2_with (first | (go_at_call 5; refine hck.mono ?_; rintro e w1 ⟨rfl, hb1⟩; have hB1 := chain hA0 hb1) | (go_at_call 18; refine (hbs _ hB1).mono ?_; rintro e w2 ⟨rfl, hb2⟩))
      go_ret2
      rw [e2.out.1, e2.out.2]
      exact ⟨_, rfl, World.ownsRow_nil _ _ _ _, chain hB1 hb2⟩
end Go.Proofs.YtjimolafoihnpaaDoor

/-
  The contract of the reference's Same, of a document and itself.
-/
namespace Go.Proofs.YtjimolafoihnpaaDoor
open Go.WideShapes Go.RowKit Go.ChangeShapes Go.ChangeAt Go.PlainAid

set_option maxRecDepth 20000 in
set_option maxHeartbeats 2000000 in
theorem docSame_true (va vb : Value) (l : List RunD) (w : World) (hm : l.length ≤ 1125899906842624) (ha : RdN w va l) (hb : RdN w vb l) :
    Calls Tryd.prog 33 #[va, vb] w fun e w' => e = .returned (.bool true) ∧ Below w.heap.size w w' := by
  obtain ⟨ao, ac, rfl, _, hac⟩ := ha
  obtain ⟨bo, bc, rfl, _, hbc⟩ := hb
  go_enter Tryd.func33, Tryd.ntmps33
  go_wp2
  go_loopw [5] (fun i wr => ∃ k : Nat, k ≤ l.length ∧ i = .int .i64 (k : Int) ∧ Below w.heap.size w wr) (fun i _ => l.length - (intOf i).toNat)
  case atStart => exact ⟨0, by omega, rfl, Below.refl _ _⟩
  case round =>
    obtain ⟨k, hk, rfl, hbl⟩ := hrel
    by_cases hlt : k < l.length
    · have hlt' : (k : Int) < (l.length : Int) := by omega
      obtain ⟨b1, o1, rfl, hb1, c0, c1, c2, c3⟩ := hac k l[k] (by simp [hlt])
      obtain ⟨b2, o2, rfl, hb2, d0, d1, d2, d3⟩ := hbc k l[k] (by simp [hlt])
      have hB1 : ∀ o, wr.cell? ⟨b1, o, none⟩ = w.cell? ⟨b1, o, none⟩ := fun o => hbl.cell (p := ⟨b1, o, none⟩) hb1
      have hB2 : ∀ o, wr.cell? ⟨b2, o, none⟩ = w.cell? ⟨b2, o, none⟩ := fun o => hbl.cell (p := ⟨b2, o, none⟩) hb2
      rw [← hB1] at c0 c1 c2 c3
      rw [← hB2] at d0 d1 d2 d3
      clear hB1 hB2 hac hbc
      generalize l[k] = o at *
      go_wp2
      go_quiet (fail)
      go_wp2
      go_roundw
      case rel => exact ⟨k + 1, by omega, by go_num, below_drewN hbl _⟩
      case measure => simp [intOf]; omega
    · clear hac hbc
      go_wp2
      go_ret
      exact ⟨rfl, hbl⟩
end Go.Proofs.YtjimolafoihnpaaDoor

/-
  A document that may be, told by its atoms.
-/
namespace Go.Proofs.YtjimolafoihnpaaDoor
open Go.WideShapes Go.RowKit Go.ChangeShapes Go.ChangeAt Go.PlainAid

/-- What tells an atom from others. -/
def Atm.key (x : Atm) : AtK := (x.c, x.q, x.n)
theorem atG_key (c q : Int) : ∀ (zs : List Int) (n : Int), (atG c q n zs).map Atm.key = (List.range zs.length).map (fun i : Nat => (c, q, n + (i : Int)))
  | [], _ => rfl
  | z :: zs, n => by
    rw [atG, List.map_cons, atG_key c q zs (n + 1), List.length_cons, List.range_succ_eq_map, List.map_cons, List.map_map]
    congr 1
    · simp [Atm.key]
    · apply List.map_congr_left
      intro i _
      simp only [Function.comp, Nat.succ_eq_add_one, Prod.mk.injEq, true_and]
      omega
theorem kys_ats {r : RunD} (h : r.Ok) : r.kys = r.ats.map Atm.key := by
  have h0 := pts_len (t := r.t) (by unfold RunD.Ok at h; omega)
  unfold RunD.ats
  rw [atG_key]
  unfold RunD.kys
  congr 2
  omega
theorem kysL_ats : ∀ {l : List RunD}, (∀ r ∈ l, r.Ok) → kysL l = (ats l).map Atm.key
  | [], _ => rfl
  | r :: l, h => by rw [kysL_cons, ats_cons, List.map_append, kys_ats (h r (by simp)), kysL_ats (fun x hx => h x (by simp [hx]))]
theorem sg_nodup : ∀ (ks S : List AtK), (sg S ks).isSome = true ↔ (∀ k ∈ ks, k ∉ S) ∧ ks.Nodup
  | [], S => by simp [sg]
  | k :: ks, S => by
    rw [sg]
    by_cases h : k ∈ S
    · rw [if_pos h]
      simp [h]
    · rw [if_neg h, sg_nodup ks (S ++ [k])]
      simp only [List.mem_append, List.nodup_cons, List.mem_cons, forall_eq_or_imp, List.not_mem_nil, or_false]
      constructor
      · rintro ⟨h1, h2⟩
        exact ⟨⟨h, fun x hx hs => h1 x hx (.inl hs)⟩, fun hk => h1 k hk (.inr rfl), h2⟩
      · rintro ⟨⟨_, h1⟩, h2, h3⟩
        exact ⟨fun x hx hs => hs.elim (h1 x hx) (fun e => h2 (e ▸ hx)), h3⟩
/-- May an atom be? -/
def Atm.May (x : Atm) : Prop := orM x.c x.q = true ∧ 0 ≤ x.n ∧ x.n ≤ 999
theorem atG_mem (c q : Int) : ∀ (zs : List Int) (n : Int) (x : Atm), x ∈ atG c q n zs → x.c = c ∧ x.q = q ∧ n ≤ x.n ∧ x.n < n + zs.length
  | [], _, x, h => by simp [atG] at h
  | z :: zs, n, x, h => by
    rw [atG] at h
    simp only [List.length_cons]
    rcases List.mem_cons.1 h with rfl | h
    · exact ⟨rfl, rfl, Int.le_refl _, by show n < _; omega⟩
    · obtain ⟨h1, h2, h3, h4⟩ := atG_mem c q zs (n + 1) x h
      exact ⟨h1, h2, by omega, by omega⟩
theorem atG_has (c q : Int) : ∀ (zs : List Int) (n : Int) (i : Nat), i < zs.length → ∃ x ∈ atG c q n zs, x.c = c ∧ x.q = q ∧ x.n = n + i
  | [], _, i, h => by simp at h
  | z :: zs, n, 0, _ => ⟨⟨c, q, n, z⟩, by simp [atG], rfl, rfl, by simp⟩
  | z :: zs, n, i + 1, h => by
    obtain ⟨x, h1, h2, h3, h4⟩ := atG_has c q zs (n + 1) i (by simpa using h)
    exact ⟨x, by simp [atG, h1], h2, h3, by rw [h4]; simp; omega⟩
theorem may_ats {r : RunD} (h : r.Ok) : mayR r = true ↔ ∀ x ∈ r.ats, x.May := by
  have h0 := pts_len (t := r.t) (by unfold RunD.Ok at h; omega)
  unfold RunD.Ok at h
  constructor
  · intro hm x hx
    obtain ⟨m1, m2, m3, m4⟩ := mayR_iff.1 hm
    obtain ⟨a1, a2, a3, a4⟩ := atG_mem _ _ _ _ _ hx
    exact ⟨by rw [a1, a2]; exact m1, by omega, by omega⟩
  · intro hx
    obtain ⟨x, x1, x2, x3, x4⟩ := atG_has r.c r.q (pts r.t) r.f 0 (by omega)
    obtain ⟨y, y1, y2, y3, y4⟩ := atG_has r.c r.q (pts r.t) r.f ((pts r.t).length - 1) (by omega)
    have mx := hx x x1
    have my := hx y y1
    refine mayR_iff.2 ⟨by have := mx.1; rwa [x2, x3] at this, h, by have := mx.2.1; rw [x4] at this; simpa using this, ?_⟩
    have := my.2.2
    rw [y4] at this
    omega
/-- THE MEASURE OF A DOCUMENT: it stands as it must, and its atoms may be. -/
theorem good_ats {l : List RunD} : Good l ↔ Can l ∧ (∀ x ∈ ats l, x.May) ∧ ((ats l).map Atm.key).Nodup ∧ (ats l).length ≤ 1000 := by
  constructor
  · intro h
    have ho : ∀ r ∈ l, r.Ok := fun r hr => (h.fit r hr).ok
    have e := kysL_ats ho
    refine ⟨h.can, fun x hx => ?_, ?_, ?_⟩
    · simp only [ats, List.mem_flatten, List.mem_map] at hx
      obtain ⟨_, ⟨r, hr, rfl⟩, hx⟩ := hx
      exact (may_ats (ho r hr)).1 (h.may r hr) x hx
    · rw [← e]
      exact ((sg_nodup _ _).1 h.one).2
    · have := h.len
      rw [e, List.length_map] at this
      exact this
  · rintro ⟨h1, h2, h3, h4⟩
    have ho := h1.all
    have e := kysL_ats ho
    refine ⟨fun r hr => (may_ats (ho r hr)).2 (fun x hx => h2 x ?_), h1, ?_, by rw [e, List.length_map]; exact h4⟩
    · simp only [ats, List.mem_flatten, List.mem_map]
      exact ⟨_, ⟨r, hr, rfl⟩, hx⟩
    · rw [sg_nodup, e]
      exact ⟨by simp, h3⟩
theorem num_ats {l : List RunD} (h : ∀ r ∈ l, r.Ok) : num l = (ats l).length := by unfold num; rw [kysL_ats h, List.length_map]
end Go.Proofs.YtjimolafoihnpaaDoor

/-
  A document cut in two and joined again.
-/
namespace Go.Proofs.YtjimolafoihnpaaDoor
open Go.WideShapes Go.RowKit Go.ChangeShapes Go.ChangeAt Go.PlainAid

theorem sl_is {l : List RunD} (h : Good l) {f t : Nat} (hf : f ≤ t) (ht : t ≤ num l) : slE l f t = 0 ∧ slL l f t = wtL [] (tkG (t - f) (tkG f l).2).1 := by
  have hg := (good_iff l).2 h
  have hc : (0 : Int) ≤ (f : Int) ∧ (f : Int) ≤ (t : Int) ∧ (t : Int) ≤ (num l : Int) := ⟨by omega, by omega, by omega⟩
  have e : ((t : Int) - (f : Int)).toNat = t - f := by omega
  refine ⟨by unfold slE; rw [hg, if_pos rfl, if_pos hc], ?_⟩
  unfold slL
  rw [hg, if_pos rfl, if_pos hc, e, Int.toNat_natCast]
theorem sl_ats {l : List RunD} (h : Good l) {f t : Nat} (hf : f ≤ t) (ht : t ≤ num l) : Can (slL l f t) ∧ ats (slL l f t) = ((ats l).drop f).take (t - f) := by
  rw [(sl_is h hf ht).2]
  obtain ⟨_, a2, _, a4⟩ := tkG_ats l f (fun r hr => (h.fit r hr).ok)
  obtain ⟨b1, _, b3, _⟩ := tkG_ats (tkG f l).2 (t - f) a4
  obtain ⟨c1, c2⟩ := wtL_can (l := []) (more := (tkG (t - f) (tkG f l).2).1) trivial b3
  exact ⟨c1, by rw [c2, b1, a2, ats_nil, List.nil_append]⟩
theorem good_sub {l m : List RunD} (h : Good l) (hc : Can m) (hs : (ats m).Sublist (ats l)) : Good m := by
  obtain ⟨_, h2, h3, h4⟩ := good_ats.1 h
  exact good_ats.2 ⟨hc, fun x hx => h2 x (hs.subset hx), h3.sublist (hs.map _), Nat.le_trans hs.length_le h4⟩
theorem sl_good {l : List RunD} (h : Good l) {f t : Nat} (hf : f ≤ t) (ht : t ≤ num l) : Good (slL l f t) := by
  obtain ⟨h1, h2⟩ := sl_ats h hf ht
  exact good_sub h h1 (by rw [h2]; exact (List.take_sublist _ _).trans (List.drop_sublist _ _))
theorem jn_ats {a b : List RunD} (ha : Good a) (hb : Good b) : Can (jn2 a b) ∧ ats (jn2 a b) = ats a ++ ats b := by
  obtain ⟨c1, c2⟩ := wtL_can (l := []) (more := a) trivial (fun r hr => (ha.fit r hr).ok)
  obtain ⟨d1, d2⟩ := wtL_can (l := wtL [] a) (more := b) c1 (fun r hr => (hb.fit r hr).ok)
  exact ⟨d1, by unfold jn2; rw [d2, c2, ats_nil, List.nil_append]⟩
/-- Cut anywhere and joined, it is itself. -/
theorem back_eq {l : List RunD} (h : Good l) {k : Nat} (hk : k ≤ num l) : jnE (slL l 0 k) (slL l k (num l)) = 0 ∧ jnL (slL l 0 k) (slL l k (num l)) = l := by
  have z : ((0 : Nat) : Int) = 0 := rfl
  have ha := sl_good h (f := 0) (t := k) (by omega) hk
  have hb := sl_good h (f := k) (t := num l) hk (Nat.le_refl _)
  obtain ⟨_, a2⟩ := sl_ats h (f := 0) (t := k) (by omega) hk
  obtain ⟨_, b2⟩ := sl_ats h (f := k) (t := num l) hk (Nat.le_refl _)
  rw [z] at ha a2
  obtain ⟨c1, c2⟩ := jn_ats ha hb
  have hn := num_ats (fun r hr => (h.fit r hr).ok)
  have e : jn2 (slL l 0 k) (slL l k (num l)) = l := by
    apply can_inj c1 h.can
    rw [c2, a2, b2, List.drop_zero, Nat.sub_zero, List.take_of_length_le (l := (ats l).drop k) (by rw [List.length_drop, hn]; omega), List.take_append_drop]
  have hB : jnB (slL l 0 k) (slL l k (num l)) = true := by
    unfold jnB
    rw [e, (good_iff _).2 ha, (good_iff _).2 hb, (good_iff _).2 h]
    rfl
  exact ⟨by unfold jnE; rw [hB]; rfl, by unfold jnL; rw [hB, if_pos rfl, e]⟩
end Go.Proofs.YtjimolafoihnpaaDoor
