/-
  Rows in the world; the contracts of check, fit and apart.
-/
import Derived.Test.YtjimolafoihnpaaDoorMgD
import Derived.Test.YtjimolafoihnpaaDoorBeh
namespace Go.Proofs.YtjimolafoihnpaaDoor
open Go.ChangeShapes Go.WideShapes Go.ChangeAt Go.RowKit Go.PlainAid

/-- A row's value: where its units lie, its map's block. -/
structure RwV where
  ao : Option Addr
  cp : Nat
  b : Nat
/-- A row in the world. -/
structure IsRw (W : World) (r : RwV) (A : List Atm) : Prop where
  rd : RdK W (.slice r.ao A.length r.cp) A
  mp : PlM W r.b A
theorem IsRw.below {w w' : World} {r : RwV} {A : List Atm} (h : IsRw w r A) (hb : Below w.heap.size w w') : IsRw w' r A := ⟨h.rd.below hb, h.mp.below hb⟩
/-- .. in a box. -/
def RwB (W : World) (p : Nat) (r : RwV) (n : Nat) : Prop := W.heap[p]? = some (.cells #[.slice r.ao n r.cp, .map (some r.b)] 85)
theorem RwB.below {W W' : World} {p n : Nat} {r : RwV} (h : RwB W p r n) (hb : Below W.heap.size W W') : RwB W' p r n := (hb.block p (heap_lt h)).trans h
theorem RwB.cells {W : World} {p n : Nat} {r : RwV} (h : RwB W p r n) : W.cell? ⟨p, 0, none⟩ = some (.slice r.ao n r.cp) ∧ W.cell? ⟨p, 1, none⟩ = some (.map (some r.b)) := by
  refine ⟨?_, ?_⟩ <;> (unfold World.cell?; rw [h]; rfl)
theorem PlM.yes {w : World} {b : Nat} {A : List Atm} (h : PlM w b A) {x : Atm} {j : Nat} (hx : AtK.Wf x.key) (hj : plK A x.key = some j) :
    (Instr.lookup 83 (.map (some b)) (.agg #[.int .i64 x.c, .int .i64 x.q, .int .i64 x.n]) true).run Tryd.prog w = .ok (.tuple #[.int .i64 (j : Int), .bool true]) w := by
  have hl := h.look hx
  have hin : x.key ∈ kL A := by
    apply Classical.byContradiction
    intro hn
    rw [plK_none.2 hn] at hj
    cases hj
  rw [decide_eq_true hin, hj] at hl
  exact hl
theorem PlM.no {w : World} {b : Nat} {A : List Atm} (h : PlM w b A) {x : Atm} (hx : AtK.Wf x.key) (hj : plK A x.key = none) :
    (Instr.lookup 83 (.map (some b)) (.agg #[.int .i64 x.c, .int .i64 x.q, .int .i64 x.n]) true).run Tryd.prog w = .ok (.tuple #[.int .i64 0, .bool false]) w := by
  have hl := h.look hx
  rw [decide_eq_false (plK_none.1 hj), hj] at hl
  exact hl
/-- A unit in a box. -/
def UB (W : World) (p : Nat) (x : Atm) : Prop := W.heap[p]? = some (.cells #[.int .i64 x.c, .int .i64 x.q, .int .i64 x.n, .int .i32 x.z] 136)
theorem UB.below {W W' : World} {p : Nat} {x : Atm} (h : UB W p x) (hb : Below W.heap.size W W') : UB W' p x := (hb.block p (heap_lt h)).trans h
theorem hasR_any (r : RwV) (A : List Atm) (x : Atm) (w : World) (h : IsRw w r A) (hx : AtK.Wf x.key) :
    Calls Tryd.prog 61 #[.agg #[.slice r.ao A.length r.cp, .map (some r.b)], .agg #[.int .i64 x.c, .int .i64 x.q, .int .i64 x.n, .int .i32 x.z]] w fun e w' => e = .returned (.bool (hasK A x)) ∧ Below w.heap.size w w' :=
  has_any r.ao A.length r.cp r.b A x w h.mp hx

set_option maxRecDepth 20000 in
set_option maxHeartbeats 1000000 in
theorem fit_any (r s : RwV) (A B : List Atm) (w : World) (hA : IsRw w r A) (hB : IsRw w s B) (hlB : B.length ≤ 1000000) :
    Calls Tryd.prog 38 #[.agg #[.slice r.ao A.length r.cp, .map (some r.b)], .agg #[.slice s.ao B.length s.cp, .map (some s.b)]] w fun e w' => e = .returned (.bool (fitD A B)) ∧ Below w.heap.size w w' := by
  have hB0 : Below w.heap.size w ((w.alloc (.cells #[.slice r.ao A.length r.cp, .map (some r.b)] 85)).alloc (.cells #[.slice s.ao B.length s.cp, .map (some s.b)] 85)) := ((Below.refl _ w).alloc (Nat.le_refl _) _).alloc (by simp) _
  have hR0 : RwB ((w.alloc (.cells #[.slice r.ao A.length r.cp, .map (some r.b)] 85)).alloc (.cells #[.slice s.ao B.length s.cp, .map (some s.b)] 85)) w.heap.size r A.length := (Below.heap_alloc _ _ _ (by simp)).trans (heap_alloc_new w _)
  have hA0 := hA.below hB0
  have hBB := hB.below hB0
  have hwf := hB.mp.1
  have hnA := hA.mp.2.1
  have f0 : Hid (fitG A (-1) (B.drop 0) = fitD A B) := by show _ = _; rw [List.drop_zero]; rfl
  go_enter Tryd.func38, Tryd.ntmps38
  go_wp2_with fail
  generalize (w.alloc _).alloc _ = w0 at *
  go_loopw [5, 13] (fun t i wr => ∃ (k : Nat) (last : Int), k ≤ B.length ∧ i = .int .i64 (k : Int) ∧ t = .int .i64 last ∧ Hid (fitG A last (B.drop k) = fitD A B) ∧ Below w0.heap.size w0 wr) (fun _ i _ => B.length - (Go.RowKit.intOf i).toNat)
  case atStart => exact ⟨0, -1, Nat.zero_le _, rfl, rfl, f0, Below.refl _ _⟩
  case round =>
    obtain ⟨k, last, hk, rfl, rfl, hf, hb⟩ := hrel
    clear f0
    by_cases hlt : k < B.length
    · have hlt' : (k : Int) < (B.length : Int) := by omega
      obtain ⟨bb, off, e1, -, x0, x1, x2, x3⟩ := rdk_at (hBB.rd.below hb) (i := k) (x := B[k]) (by simp [hlt])
      obtain ⟨sao, scp, sb⟩ := s
      simp only at e1
      subst e1
      have hfd := fitG_drop (A := A) (last := last) hlt
      rw [hf.out] at hfd
      have hxw := hwf B[k] (by simp)
      generalize B[k] = x at *
      have hba := hb.alloc hb.size (.cells #[.int .i64 x.c, .int .i64 x.q, .int .i64 x.n, .int .i32 x.z] 136)
      have hU : UB (wr.alloc (.cells #[.int .i64 x.c, .int .i64 x.q, .int .i64 x.n, .int .i32 x.z] 136)) wr.heap.size x := heap_alloc_new wr _
      have hmp := hA0.mp.below hba
      obtain ⟨d0, d1⟩ := (hR0.below hba).cells
      have hB1 : Below w.heap.size w (wr.alloc (.cells #[.int .i64 x.c, .int .i64 x.q, .int .i64 x.n, .int .i32 x.z] 136)) := chain hB0 hba
      have hRb := hR0.below hba
      have hAb := hA0.below hba
      clear hf hwf
      cases hj : plK A x.key with
      | some j =>
        have hjk := (plK_some hnA).1 hj
        have hjl : j < A.length := by have := (List.getElem?_eq_some_iff.1 hjk).1; simpa [kL] using this
        obtain ⟨y, hy⟩ : ∃ y, A[j]? = some y := ⟨A[j], by simp [hjl]⟩
        have hlk := hmp.yes hxw hj
        rw [hj] at hfd
        simp only [hy, Option.map_some] at hfd
        have hjl' : (j : Int) < (A.length : Int) := by omega
        obtain ⟨ba, oa, e2, -, y0, y1, y2, y3⟩ := rdk_at hAb.rd hy
        clear hj hjk hmp hnA
        by_cases t1 : (j : Int) < last
        · have HF : Hid (fitD A B = false) := by show _ = _; rw [hfd, if_pos (.inl t1)]
          clear hfd
          go_upto_region 7 with fail
          refine wp_region_beh (by kernel_rfl) (by kernel_rfl) ?_
          repeat (go_big_quiet_step (fail))
          refine wpQuiet_nil ?_
          intro wq hw'
          have hwq := Beh.out hw'
          clear hw'
          go_wp2_with fail
          go_ret
          rw [HF.out]
          exact ⟨rfl, chain hB1 hwq⟩
        · have t1' : decide ((j : Int) < last) = false := by simp [t1]
          obtain ⟨rao, rcp, rb⟩ := r
          simp only at e2
          subst e2
          obtain ⟨wx, hwx⟩ : ∃ y, y = wr.alloc (.cells #[.int .i64 x.c, .int .i64 x.q, .int .i64 x.n, .int .i32 x.z] 136) := ⟨_, rfl⟩
          have p0 : ∀ s : Beh (wr.alloc (.cells #[.int .i64 x.c, .int .i64 x.q, .int .i64 x.n, .int .i32 x.z] 136)), s.it.cell? ⟨w.heap.size, 0, none⟩ = some (.slice (some ⟨ba, oa, none⟩) A.length rcp) := fun s => (hRb.below s.h).cells.1
          have p1 : ∀ s : Beh (wr.alloc (.cells #[.int .i64 x.c, .int .i64 x.q, .int .i64 x.n, .int .i32 x.z] 136)), s.it.cell? ⟨ba, oa + j * 4 + 3, none⟩ = some (.int .i32 y.z) := fun s => by
            obtain ⟨_, _, e, -, -, -, -, g⟩ := rdk_at (hAb.rd.below s.h) hy
            cases e
            exact g
          have p2 : ∀ s : Beh (wr.alloc (.cells #[.int .i64 x.c, .int .i64 x.q, .int .i64 x.n, .int .i32 x.z] 136)), s.it.cell? ⟨wr.heap.size, 3, none⟩ = some (.int .i32 x.z) := fun s => (ub_cells (hU.below s.h)).2.2.2
          clear hwx
          by_cases t2 : y.z = x.z
          · have t2' : (y.z != x.z) = false := by simp [t2]
            have HF : Hid (fitG A (j : Int) (B.drop (k + 1)) = fitD A B) := by show _ = _; rw [hfd, if_neg (by simp [t1, t2])]
            clear hfd t2 hy
            go_upto_region 7 with fail
            refine wp_region_beh (by kernel_rfl) (by kernel_rfl) ?_
            repeat (go_big_quiet_step (fail))
            refine wpQuiet_nil ?_
            intro wq hw'
            have hwq := Beh.out hw'
            clear hw' p0 p1 p2
            go_wp2_with fail
            refine ⟨⟨k + 1, (j : Int), by omega, by simp, rfl, HF, chain hba hwq⟩, ?_⟩
            simp [Go.RowKit.intOf]
            omega
          · have t2' : (y.z != x.z) = true := by simpa using t2
            have HF : Hid (fitD A B = false) := by show _ = _; rw [hfd, if_pos (.inr (by simp [t2]))]
            clear hfd t2 hy
            go_upto_region 7 with fail
            refine wp_region_beh (by kernel_rfl) (by kernel_rfl) ?_
            repeat (go_big_quiet_step (fail))
            refine wpQuiet_nil ?_
            intro wq hw'
            have hwq := Beh.out hw'
            clear hw' p0 p1 p2
            go_wp2_with fail
            go_ret
            rw [HF.out]
            exact ⟨rfl, chain hB1 hwq⟩
      | none =>
        have hlk := hmp.no hxw hj
        rw [hj] at hfd
        simp only at hfd
        have HF : Hid (fitG A last (B.drop (k + 1)) = fitD A B) := hfd.symm
        clear hj hfd hmp
        go_wp2_with fail
        refine ⟨⟨k + 1, last, by omega, by simp, rfl, HF, hba⟩, ?_⟩
        simp [Go.RowKit.intOf]
        omega
    · obtain rfl : k = B.length := by omega
      have HF : Hid (fitD A B = true) := by show _ = _; rw [← hf.out, List.drop_length]; rfl
      clear hf
      go_wp2_with fail
      go_ret
      rw [HF.out]
      exact ⟨rfl, chain hB0 hb⟩
end Go.Proofs.YtjimolafoihnpaaDoor

/-
  The contracts of check and apart; the closures of merged.
-/
namespace Go.Proofs.YtjimolafoihnpaaDoor
open Go.ChangeShapes Go.WideShapes Go.ChangeAt Go.RowKit Go.PlainAid

/-- May all of these documents be? -/
def ckL (L : List (List RunD)) : Int := if L.all (fun l => ckG [] none l) = true then 0 else 120
/-- Documents in a row. -/
def RdL (w : World) (v : Value) (L : List (List RunD)) : Prop :=
  ∃ (ao : Option Addr) (cp : Nat), v = .slice ao L.length cp ∧ ∀ (i : Nat) (l : List RunD), L[i]? = some l → ∃ b off u, ao = some ⟨b, off, none⟩ ∧ b < w.heap.size ∧ w.cell? ⟨b, off + i, none⟩ = some u ∧ RdN w u l
theorem rdl_at {w W : World} {ao : Option Addr} {n cp : Nat} {L : List (List RunD)} (h : RdL w (.slice ao n cp) L) (hb : Below w.heap.size w W) {i : Nat} {l : List RunD} (hl : L[i]? = some l) : ∃ b off u, ao = some ⟨b, off, none⟩ ∧ W.cell? ⟨b, off + i, none⟩ = some u ∧ RdN W u l := by
  obtain ⟨a, c, e, h⟩ := h
  injection e with e1 _ _
  subst e1
  obtain ⟨b, off, u, e2, h1, h2, h3⟩ := h i l hl
  exact ⟨b, off, u, e2, (hb.cell (p := ⟨b, off + i, none⟩) h1).trans h2, h3.below hb⟩

set_option maxRecDepth 20000 in
set_option maxHeartbeats 1000000 in
theorem mcheck_any (v : Value) (L : List (List RunD)) (w : World) (hV : VS w) (hr : RdL w v L) (hm : ∀ l ∈ L, l.length ≤ 1125899906842624 ∧ ∀ r ∈ l, r.In) (hl : L.length ≤ 1000000) :
    Calls Tryd.prog 36 #[v] w fun e w' => e = .returned (.int .i64 (ckL L)) ∧ Below w.heap.size w w' := by
  obtain ⟨ao, cp, hv, -⟩ := id hr
  subst hv
  have h0 : Hid (ckL (L.drop 0) = ckL L) := by show _ = _; rw [List.drop_zero]
  go_enter Tryd.func36, Tryd.ntmps36
  go_wp2_with fail
  go_loopw [8] (fun i wr => ∃ (k : Nat), k ≤ L.length ∧ i = .int .i64 (k : Int) ∧ Hid (ckL (L.drop k) = ckL L) ∧ Below w.heap.size w wr) (fun i _ => L.length - (Go.RowKit.intOf i).toNat)
  case atStart => exact ⟨0, Nat.zero_le _, rfl, h0, Below.refl _ _⟩
  case round =>
    obtain ⟨k, hk, rfl, hc, hb⟩ := hrel
    clear h0
    by_cases hlt : k < L.length
    · have hlt' : (k : Int) < (L.length : Int) := by omega
      obtain ⟨bb, off, u, rfl, e0, hrd⟩ := rdl_at hr hb (i := k) (l := L[k]) (by simp [hlt])
      obtain ⟨hm1, hm2⟩ := hm L[k] (by simp)
      have hdr := List.drop_eq_getElem_cons hlt
      have hck := check_any u L[k] wr (hV.below hb) hrd hm1 hm2
      have hcc := hc.out
      rw [hdr] at hcc
      obtain ⟨a1, c1, e1, -⟩ := id hrd
      generalize L[k] = l at *
      subst e1
      cases hg : ckG [] none l
      · have e : ckR l = 120 := by unfold ckR; rw [hg]; rfl
        rw [e] at hck
        have HF : Hid (ckL L = 120) := by show _ = _; rw [← hcc]; unfold ckL; simp [hg]
        clear hcc hc hr hm hrd e hg
        go_wp2_with fail
        refine hck.mono ?_
        rintro e w1 ⟨rfl, hb1⟩
        go_wp2_with fail
        go_ret
        rw [HF.out]
        exact ⟨rfl, chain hb hb1⟩
      · have e : ckR l = 0 := by unfold ckR; rw [hg]; rfl
        rw [e] at hck
        have HF : Hid (ckL (L.drop (k + 1)) = ckL L) := by show _ = _; rw [← hcc]; unfold ckL; simp [hg]
        clear hcc hc hr hm hrd e hg
        go_wp2_with fail
        refine hck.mono ?_
        rintro e w1 ⟨rfl, hb1⟩
        go_wp2_with fail
        refine ⟨⟨k + 1, by omega, by simp, HF, chain hb hb1⟩, ?_⟩
        simp [Go.RowKit.intOf]
        omega
    · obtain rfl : k = L.length := by omega
      have HF : Hid (ckL L = 0) := by show _ = _; rw [← hc.out, List.drop_length]; rfl
      clear hc hr hm
      go_wp2_with fail
      go_ret
      rw [HF.out]
      exact ⟨rfl, hb⟩

set_option maxRecDepth 20000 in
set_option maxHeartbeats 1000000 in
theorem uindex_any (F : FuncId) (fi ca : Array Value) (v : Value) (l : List Atm) (p : Atm → Bool) (w : World) (hr : RdK w v l) (hP : Pr w F fi ca l p) (hl : l.length ≤ 1000000) :
    Calls Tryd.prog 86 #[v, .func (.func F) fi ca] w fun e w' => ∃ z : Int, e = .returned (.int .i64 z) ∧ decide (0 ≤ z) = l.any p ∧ Below w.heap.size w w' := by
  obtain ⟨ao, cp, hv, -⟩ := id hr
  subst hv
  have hF := hP.enter
  have h0 : Hid ((l.drop 0).any p = l.any p) := by show _ = _; rw [List.drop_zero]
  go_enter Tryd.func86, Tryd.ntmps86
  go_wp2_with fail
  go_loopw [8] (fun i wr => ∃ (k : Nat), k ≤ l.length ∧ i = .int .i64 (k : Int) ∧ Hid ((l.drop k).any p = l.any p) ∧ Below w.heap.size w wr) (fun i _ => l.length - (Go.RowKit.intOf i).toNat)
  case atStart => exact ⟨0, Nat.zero_le _, rfl, h0, Below.refl _ _⟩
  case round =>
    obtain ⟨k, hk, rfl, hc, hb⟩ := hrel
    clear h0
    by_cases hlt : k < l.length
    · have hlt' : (k : Int) < (l.length : Int) := by omega
      obtain ⟨bb, off, rfl, -, e0, e1, e2, e3⟩ := rdk_at (hr.below hb) (i := k) (x := l[k]) (by simp [hlt])
      have hs := hP.say wr hb l[k] (by simp)
      have hcc := hc.out
      rw [List.drop_eq_getElem_cons hlt, List.any_cons] at hcc
      generalize l[k] = x at *
      cases hp : p x
      · have HF : Hid ((l.drop (k + 1)).any p = l.any p) := by show _ = _; rw [← hcc, hp]; rfl
        rw [hp] at hs
        clear hcc hc hp hr hP
        go_wp2_with fail
        refine hs.mono ?_
        rintro e w1 ⟨rfl, hb1⟩
        go_wp2_with fail
        refine ⟨⟨k + 1, by omega, by simp, HF, chain hb hb1⟩, ?_⟩
        simp [Go.RowKit.intOf]
        omega
      · have HF : Hid (l.any p = true) := by show _ = _; rw [← hcc, hp]; rfl
        rw [hp] at hs
        clear hcc hc hp hr hP
        go_wp2_with fail
        refine hs.mono ?_
        rintro e w1 ⟨rfl, hb1⟩
        go_wp2_with fail
        go_ret
        exact ⟨(k : Int), rfl, by rw [HF.out]; simp, chain hb hb1⟩
    · obtain rfl : k = l.length := by omega
      have HF : Hid (l.any p = false) := by show _ = _; rw [← hc.out, List.drop_length]; rfl
      clear hc hr hP
      go_wp2_with fail
      go_ret
      exact ⟨-1, rfl, by rw [HF.out]; rfl, hb⟩
theorem ucontains_any (F : FuncId) (fi ca : Array Value) (v : Value) (l : List Atm) (p : Atm → Bool) (w : World) (hr : RdK w v l) (hP : Pr w F fi ca l p) (hl : l.length ≤ 1000000) :
    Calls Tryd.prog 59 #[v, .func (.func F) fi ca] w fun e w' => e = .returned (.bool (l.any p)) ∧ Below w.heap.size w w' := by
  have hI := uindex_any F fi ca v l p w hr hP hl
  obtain ⟨ao, cp, hv, -⟩ := id hr
  subst hv
  clear hr hP
  go_enter Tryd.func59, Tryd.ntmps59
  go_wp2_with (go_at_call 86; refine hI.mono ?_; rintro e w1 ⟨z, rfl, hz, hb1⟩)
  go_ret
  exact ⟨rfl, hb1⟩

set_option maxRecDepth 20000 in
set_option maxHeartbeats 1000000 in
theorem apart1_any (p q : Nat) (r s : RwV) (X A : List Atm) (x : Atm) (w : World) (hX : IsRw w r X) (hA : IsRw w s A) (bX : RwB w p r X.length) (bA : RwB w q s A.length) (hx : AtK.Wf x.key) :
    Calls Tryd.prog 60 #[.agg #[.int .i64 x.c, .int .i64 x.q, .int .i64 x.n, .int .i32 x.z], .pointer (some ⟨p, 0, none⟩), .pointer (some ⟨q, 0, none⟩)] w fun e w' => e = .returned (.bool (hasK X x && !hasK A x)) ∧ Below w.heap.size w w' := by
  have hb : Below w.heap.size w (w.alloc (.cells #[.int .i64 x.c, .int .i64 x.q, .int .i64 x.n, .int .i32 x.z] 136)) := (Below.refl _ w).alloc (Nat.le_refl _) _
  have hU : UB (w.alloc (.cells #[.int .i64 x.c, .int .i64 x.q, .int .i64 x.n, .int .i32 x.z] 136)) w.heap.size x := heap_alloc_new w _
  have h1 := hasR_any r X x _ (hX.below hb) hx
  have h2 := fun W (h : Below w.heap.size w W) => hasR_any s A x W (hA.below h) hx
  obtain ⟨c0, c1⟩ := (bX.below hb).cells
  obtain ⟨u0, u1, u2, u3⟩ := ub_cells hU
  go_enter Tryd.func60, Tryd.ntmps60
  cases e1 : hasK X x
  · rw [e1] at h1
    go_wp2_with fail
    refine h1.mono ?_
    rintro e w1 ⟨rfl, hb1⟩
    go_wp2_with fail
    go_ret
    exact ⟨rfl, chain hb hb1⟩
  · rw [e1] at h1
    go_wp2_with fail
    refine h1.mono ?_
    rintro e w1 ⟨rfl, hb1⟩
    have hB := chain hb hb1
    obtain ⟨d0, d1⟩ := (bA.below hB).cells
    obtain ⟨v0, v1, v2, v3⟩ := ub_cells (hU.below hb1)
    clear h1 c0 c1 u0 u1 u2 u3 e1
    go_wp2_with fail
    refine (h2 _ hB).mono ?_
    rintro e w2 ⟨rfl, hb2⟩
    go_wp2_with fail
    go_ret
    exact ⟨by simp, chain hB hb2⟩

/-- Three rows in boxes. -/
theorem boxes3 (a x y : RwV) (n m k : Nat) (w : World) : Below w.heap.size w (((w.alloc (.cells #[.slice a.ao n a.cp, .map (some a.b)] 85)).alloc (.cells #[.slice x.ao m x.cp, .map (some x.b)] 85)).alloc (.cells #[.slice y.ao k y.cp, .map (some y.b)] 85)) ∧
    RwB (((w.alloc (.cells #[.slice a.ao n a.cp, .map (some a.b)] 85)).alloc (.cells #[.slice x.ao m x.cp, .map (some x.b)] 85)).alloc (.cells #[.slice y.ao k y.cp, .map (some y.b)] 85)) w.heap.size a n ∧
    RwB (((w.alloc (.cells #[.slice a.ao n a.cp, .map (some a.b)] 85)).alloc (.cells #[.slice x.ao m x.cp, .map (some x.b)] 85)).alloc (.cells #[.slice y.ao k y.cp, .map (some y.b)] 85)) (w.heap.size + 1) x m ∧
    RwB (((w.alloc (.cells #[.slice a.ao n a.cp, .map (some a.b)] 85)).alloc (.cells #[.slice x.ao m x.cp, .map (some x.b)] 85)).alloc (.cells #[.slice y.ao k y.cp, .map (some y.b)] 85)) (w.heap.size + 1 + 1) y k := by
  have q1 : Below w.heap.size w (w.alloc (.cells #[.slice a.ao n a.cp, .map (some a.b)] 85)) := (Below.refl _ w).alloc (Nat.le_refl _) _
  have b1 : RwB (w.alloc (.cells #[.slice a.ao n a.cp, .map (some a.b)] 85)) w.heap.size a n := heap_alloc_new w _
  have s1 : (w.alloc (.cells #[.slice a.ao n a.cp, .map (some a.b)] 85)).heap.size = w.heap.size + 1 := by simp
  generalize w.alloc (.cells #[.slice a.ao n a.cp, .map (some a.b)] 85) = w1 at *
  have q2 : Below w1.heap.size w1 (w1.alloc (.cells #[.slice x.ao m x.cp, .map (some x.b)] 85)) := (Below.refl _ w1).alloc (Nat.le_refl _) _
  have b2 : RwB (w1.alloc (.cells #[.slice x.ao m x.cp, .map (some x.b)] 85)) w1.heap.size x m := heap_alloc_new w1 _
  have s2 : (w1.alloc (.cells #[.slice x.ao m x.cp, .map (some x.b)] 85)).heap.size = w1.heap.size + 1 := by simp
  generalize w1.alloc (.cells #[.slice x.ao m x.cp, .map (some x.b)] 85) = w2 at *
  have q3 : Below w2.heap.size w2 (w2.alloc (.cells #[.slice y.ao k y.cp, .map (some y.b)] 85)) := (Below.refl _ w2).alloc (Nat.le_refl _) _
  have b3 : RwB (w2.alloc (.cells #[.slice y.ao k y.cp, .map (some y.b)] 85)) w2.heap.size y k := heap_alloc_new w2 _
  rw [s2, s1] at b3
  rw [s1] at b2
  exact ⟨chain (chain q1 q2) q3, b1.below (chain q2 q3), b2.below q3, b3⟩

set_option maxRecDepth 20000 in
set_option maxHeartbeats 1000000 in
theorem apart_any (a x y : RwV) (A X Y : List Atm) (w : World) (hA : IsRw w a A) (hX : IsRw w x X) (hY : IsRw w y Y) (hl : Y.length ≤ 1000000) :
    Calls Tryd.prog 39 #[.agg #[.slice a.ao A.length a.cp, .map (some a.b)], .agg #[.slice x.ao X.length x.cp, .map (some x.b)], .agg #[.slice y.ao Y.length y.cp, .map (some y.b)]] w fun e w' => e = .returned (.bool (!(Y.any (fun u => hasK X u && !hasK A u)))) ∧ Below w.heap.size w w' := by
  obtain ⟨q, bA, bX, bY⟩ := boxes3 a x y A.length X.length Y.length w
  have hP : Pr (((w.alloc (.cells #[.slice a.ao A.length a.cp, .map (some a.b)] 85)).alloc (.cells #[.slice x.ao X.length x.cp, .map (some x.b)] 85)).alloc (.cells #[.slice y.ao Y.length y.cp, .map (some y.b)] 85)) 60 #[] #[.pointer (some ⟨w.heap.size + 1, 0, none⟩), .pointer (some ⟨w.heap.size, 0, none⟩)] Y (fun u => hasK X u && !hasK A u) :=
    ⟨fun _ _ => by kernel_rfl, fun W hb z hz => apart1_any _ _ x a X A z W ((hX.below q).below hb) ((hA.below q).below hb) (bX.below hb) (bA.below hb) (hY.mp.1 z hz)⟩
  have hC := ucontains_any _ _ _ _ Y _ _ (hY.below q).rd hP hl
  obtain ⟨y0, y1⟩ := bY.cells
  have hmf : ∀ (fn : Fn) (first cap : Array Value) (w : World), (Instr.makeFunc fn first cap).run Tryd.prog w = .ok (.func fn first cap) w := fun _ _ _ _ => rfl
  clear hP bA bX bY
  go_enter Tryd.func39, Tryd.ntmps39
  go_wp2_with fail
  refine hC.mono ?_
  rintro e w1 ⟨rfl, hb1⟩
  go_wp2_with fail
  go_ret
  exact ⟨rfl, chain q hb1⟩
end Go.Proofs.YtjimolafoihnpaaDoor
