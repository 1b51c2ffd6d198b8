/-
  Proved: what both texts begin with, and end with, is kept (the law DiffEnds), for every input.
-/
import Derived.Test.YtfhbkaiioiihjaaDoorDiW
import Derived.Test.YtfhbkaiioiihjaaDoorDiG
import Derived.Test.YtfhbkaiioiihjaaDoorDlL
import Derived.ChangeOld
import Derived.ShutString
namespace Go.Proofs.YtfhbkaiioiihjaaDoor.diffEnds
open Go.RowKit Go.ChangeShapes Go.WideShapes Go.ChangeAt Go.PlainAid
open Go.ChangeMaps (open_string shut_string)

/-- One text behind another. -/
def cat (x y : ByteArray) : ByteArray := mk (x.data.toList ++ y.data.toList)
theorem cat_size (x y : ByteArray) : (cat x y).size = x.size + y.size := by rw [cat, mk_size, List.length_append, data_len, data_len]
theorem cat_pts {x y : ByteArray} (hx : 0 ≤ cpl x) (hy : 0 ≤ cpl y) : pts (cat x y) = pts x ++ pts y := by
  have e1 := (whole_eq (cpl_valid hx)).1
  have e2 := (whole_eq (cpl_valid hy)).1
  rw [show ptL x (cpl x).toNat = pts x from rfl] at e1
  rw [show ptL y (cpl y).toNat = pts y from rfl] at e2
  have hp : ∀ z ∈ pts x ++ pts y, szI z ≠ 0 := fun z hz => by
    rcases List.mem_append.1 hz with h | h
    · exact pts_ok hx z h
    · exact pts_ok hy z h
  have := (cpl_enc hp).2
  rw [enc_append] at this
  have f1 : x.data.toList = enc (pts x) := by rw [← mk_toList (enc (pts x)), e1]
  have f2 : y.data.toList = enc (pts y) := by rw [← mk_toList (enc (pts y)), e2]
  rw [cat, f1, f2]
  exact this
theorem add_cat (x y : ByteArray) (W : World) (h : x.size + y.size ≤ 9223372036854775807) : (Op.stringOp .add x y).run Tryd.prog W = .ok (.string (cat x y)) W := by
  have := pk.add_mk x.data.toList y.data.toList W (by rw [data_len, data_len]; exact h)
  rw [mk_data, mk_data] at this
  exact this

set_option maxRecDepth 20000 in
set_option maxHeartbeats 1000000 in
theorem walk (a b e : ByteArray) (w : World) (hV : VS w) (_ : a.size ≤ maxLen) (ha1 : a.size ≤ 140737488351232) (_ : b.size ≤ maxLen) (hb1 : b.size ≤ 140737488351232) (_ : e.size ≤ maxLen) (he1 : e.size ≤ 140737488351232) :
    Calls Tryd.prog 6 #[.string a, .string b, .string e] w fun r w' => r = .returned (.bool true) ∧ Below w.heap.size w w' := by
  have z1 := cat_size e a
  have z2 := cat_size e b
  have z3 := cat_size a e
  have z4 := cat_size b e
  have s1 := fun W => add_cat e a W (by omega)
  have s2 := fun W => add_cat e b W (by omega)
  have s3 := fun W => add_cat a e W (by omega)
  have s4 := fun W => add_cat b e W (by omega)
  have c1 := common_any a b w hV (by omega) (by omega)
  have c2 := fun W q => common_any (cat e a) (cat e b) W (hV.below q) (by omega) (by omega)
  have c3 := fun W q => common_any (cat a e) (cat b e) W (hV.below q) (by omega) (by omega)
  have cL := fun W h => live11_any W (hV.below h)
  by_cases h : ptE a b = 0 ∧ ptE (cat e a) (cat e b) = 0 ∧ ptE (cat a e) (cat b e) = 0
  · obtain ⟨h1, h2, h3⟩ := h
    rw [if_pos h1, h1] at c1
    rw [if_pos h2, h2] at c2
    rw [if_pos h3, h3] at c3
    obtain ⟨p1, p2, p3, p4⟩ := ptE_zero h1
    obtain ⟨q1, q2, q3, q4⟩ := ptE_zero h2
    have sz := size_smallL q1 q3
    have cE := fun W => refLen_any e W (by omega)
    by_cases he : 0 ≤ cpl e
    · have le := pts_len he
      have f1 := lc_pre (pts e) (pts a) (pts b)
      have f2 := lc_suf (pts e) (pts a) (pts b)
      rw [cat_pts he p1, cat_pts he p2, f1] at c2
      rw [cat_pts p1 he, cat_pts p2 he, f2] at c3
      have hle := lc_le (pts a) (pts b)
      have lb := pts_len p2
      have hel : cpl e ≤ 4000 := by have := (cpl_le e).2; omega
      have v1 : (((pts e).length + lc (pts a) (pts b) : Nat) : Int) = (lc (pts a) (pts b) : Int) + cpl e := by omega
      have v2 : ((lc (pts a) (pts b) + (pts e).length : Nat) : Int) = (lc (pts a) (pts b) : Int) + cpl e := by omega
      rw [v1] at c2
      rw [v2] at c3
      have hn : (lc (pts a) (pts b) : Int) ≤ 1000 := by omega
      clear v1 v2 le f1 f2 hle lb h1 h2 h3 p1 p2 p3 p4 q1 q2 q3 q4 sz z1 z2 z3 z4
      generalize lc (pts a) (pts b) = n at *
      generalize cpl e = m at *
      generalize cat e a = x1 at *
      generalize cat e b = x2 at *
      generalize cat a e = x3 at *
      generalize cat b e = x4 at *
      have he' : ¬ m < 0 := by omega
      go_enter Tryd.func6, Tryd.ntmps6
      go_wp2_with fail
      refine c1.mono ?_
      rintro r w1 ⟨rfl, hb⟩
      clear c1
      go_wp2_with fail
      refine (c2 _ hb).mono ?_
      rintro r w2 ⟨rfl, k2⟩
      have hb := chain hb k2
      clear c2 k2
      go_wp2_with fail
      refine (c3 _ hb).mono ?_
      rintro r w3 ⟨rfl, k3⟩
      have hb := chain hb k3
      clear c3 k3
      go_wp2_with fail
      refine (cE _).mono ?_
      rintro r w4 ⟨rfl, k4⟩
      have hb := chain hb k4
      clear k4
      go_wp2_with fail
      refine (cE _).mono ?_
      rintro r w5 ⟨rfl, k5⟩
      have hb := chain hb k5
      clear k5 cE
      go_wp2_with fail
      refine (cL _ hb).mono ?_
      rintro r w9 ⟨rfl, hb9⟩
      go_wp2_with fail
      go_ret
      exact ⟨rfl, chain hb hb9⟩
    · clear h1 h2 h3 p1 p2 p3 p4 q1 q2 q3 q4 sz z1 z2 z3 z4
      generalize lc (pts a) (pts b) = n at *
      generalize lc (pts (cat e a)) (pts (cat e b)) = n2 at *
      generalize lc (pts (cat a e)) (pts (cat b e)) = n3 at *
      generalize cpl e = m at *
      generalize cat e a = x1 at *
      generalize cat e b = x2 at *
      generalize cat a e = x3 at *
      generalize cat b e = x4 at *
      have he' : m < 0 := by omega
      go_enter Tryd.func6, Tryd.ntmps6
      go_wp2_with fail
      refine c1.mono ?_
      rintro r w1 ⟨rfl, hb⟩
      clear c1
      go_wp2_with fail
      refine (c2 _ hb).mono ?_
      rintro r w2 ⟨rfl, k2⟩
      have hb := chain hb k2
      clear c2 k2
      go_wp2_with fail
      refine (c3 _ hb).mono ?_
      rintro r w3 ⟨rfl, k3⟩
      have hb := chain hb k3
      clear c3 k3
      go_wp2_with fail
      refine (cE _).mono ?_
      rintro r w4 ⟨rfl, k4⟩
      have hb := chain hb k4
      clear k4
      go_wp2_with fail
      refine (cL _ hb).mono ?_
      rintro r w9 ⟨rfl, hb9⟩
      go_wp2_with fail
      go_ret
      exact ⟨rfl, chain hb hb9⟩
  · have HN : ∀ n0 m0 k0 : Int, (¬ (n0 = 0 ∧ m0 = 0 ∧ k0 = 0)) → ∀ (u1 u2 u3 : Int), (Calls Tryd.prog 8 #[.string a, .string b] w fun r w' => r = .returned (.tuple #[.int .i64 u1, .int .i64 n0]) ∧ Below w.heap.size w w') →
        (∀ W, Below w.heap.size w W → Calls Tryd.prog 8 #[.string (cat e a), .string (cat e b)] W fun r w' => r = .returned (.tuple #[.int .i64 u2, .int .i64 m0]) ∧ Below W.heap.size W w') →
        (∀ W, Below w.heap.size w W → Calls Tryd.prog 8 #[.string (cat a e), .string (cat b e)] W fun r w' => r = .returned (.tuple #[.int .i64 u3, .int .i64 k0]) ∧ Below W.heap.size W w') →
        Calls Tryd.prog 6 #[.string a, .string b, .string e] w fun r w' => r = .returned (.bool true) ∧ Below w.heap.size w w' := by
      intro n0 m0 k0 hn u1 u2 u3 c1 c2 c3
      clear h z1 z2 z3 z4 ha1 hb1 he1
      generalize cat e a = x1 at *
      generalize cat e b = x2 at *
      generalize cat a e = x3 at *
      generalize cat b e = x4 at *
      by_cases d1 : n0 = 0
      · by_cases d2 : m0 = 0
        · have d3 : (k0 != 0) = true := by simp; exact fun e => hn ⟨d1, d2, e⟩
          subst d1; subst d2
          clear hn
          go_enter Tryd.func6, Tryd.ntmps6
          go_wp2_with fail
          refine c1.mono ?_
          rintro r w1 ⟨rfl, hb⟩
          go_wp2_with fail
          refine (c2 _ hb).mono ?_
          rintro r w2 ⟨rfl, k2⟩
          have hb := chain hb k2
          go_wp2_with fail
          refine (c3 _ hb).mono ?_
          rintro r w3 ⟨rfl, k3⟩
          have hb := chain hb k3
          go_wp2_with fail
          refine (cL _ hb).mono ?_
          rintro r w9 ⟨rfl, hb9⟩
          go_wp2_with fail
          go_ret
          exact ⟨rfl, chain hb hb9⟩
        · have d3 : (m0 != 0) = true := by simpa using d2
          subst d1
          clear hn d2
          go_enter Tryd.func6, Tryd.ntmps6
          go_wp2_with fail
          refine c1.mono ?_
          rintro r w1 ⟨rfl, hb⟩
          go_wp2_with fail
          refine (c2 _ hb).mono ?_
          rintro r w2 ⟨rfl, k2⟩
          have hb := chain hb k2
          go_wp2_with fail
          refine (c3 _ hb).mono ?_
          rintro r w3 ⟨rfl, k3⟩
          have hb := chain hb k3
          go_wp2_with fail
          refine (cL _ hb).mono ?_
          rintro r w9 ⟨rfl, hb9⟩
          go_wp2_with fail
          go_ret
          exact ⟨rfl, chain hb hb9⟩
      · have d3 : (n0 != 0) = true := by simpa using d1
        clear hn d1
        go_enter Tryd.func6, Tryd.ntmps6
        go_wp2_with fail
        refine c1.mono ?_
        rintro r w1 ⟨rfl, hb⟩
        go_wp2_with fail
        refine (c2 _ hb).mono ?_
        rintro r w2 ⟨rfl, k2⟩
        have hb := chain hb k2
        go_wp2_with fail
        refine (c3 _ hb).mono ?_
        rintro r w3 ⟨rfl, k3⟩
        have hb := chain hb k3
        go_wp2_with fail
        refine (cL _ hb).mono ?_
        rintro r w9 ⟨rfl, hb9⟩
        go_wp2_with fail
        go_ret
        exact ⟨rfl, chain hb hb9⟩
    exact HN _ _ _ h _ _ _ c1 c2 c3

theorem own : ownKnob Tryd.prog.godebug = none := by kernel_rfl
theorem laidOut : laidOutB Tryd.prog = true := by kernel_rfl

set_option maxRecDepth 20000 in
theorem contract (H : Type) (enc : TypeId × Value → H) (W : World) (base : Nat) (args : Array Value) (ds gs : List (DataW H)) (before : List MemPlace)
    (hval : ∀ (j : Nat) t v, Tryd.f6.params[j]? = some t → args[j]? = some v → Value.okWide Tryd.prog W .any base t v)
    (hW : DataW.Whole enc Tryd.prog Tryd.f6.params.toList Rows.diffEndsSpec.vars false W args.toList ds gs before) (hsz0 : (DataW.weightsEach Tryd.prog (Tryd.f6.params.toList ++ Rows.diffEndsSpec.plain.varTypes Tryd.prog) (ds ++ gs)).all (· ≤ reachBytes) = true) (hL : laidMetH Tryd.prog Rows.diffEndsRow.laid W) :
    Calls Tryd.prog 6 args W fun e W' => ∃ v, e = .returned v ∧ Rows.diffEndsSpec.post enc Tryd.prog Tryd.f6 false true false false W args v W' := by
  have hW' := hW
  obtain ⟨p, q, hA0, hV, rfl, hfz, hnd⟩ := hW
  have hA : DataW.TrodAll enc Tryd.prog W 0 (fun _ => true) true Tryd.f6.params.toList args.toList ds p := hA0
  rw [Tryd.params6] at hA hval hsz0
  obtain ⟨v0, vs0, d0, ds0, p0, q0, hargs, rfl, rfl, h0, r0⟩ := trodAll_cons hA
  obtain ⟨v1, vs1, d1, ds1, p1, q1, rfl, rfl, rfl, h1, r1⟩ := trodAll_cons r0
  obtain ⟨v2, vs2, d2, ds2, p2, q2, rfl, rfl, rfl, h2, r2⟩ := trodAll_cons r1
  obtain ⟨rfl, rfl, rfl⟩ := trodAll_nil r2
  obtain rfl : args = #[v0, v1, v2] := by cases args; simp_all
  obtain ⟨rfl, rfl⟩ := trodVars_none hV
  have k0 := h0
  have lt0 : ∀ x ∈ p0, x.block < W.heap.size := by obtain ⟨m, hm⟩ := k0; exact DataW.trod_lt m _ _ _ hm
  have k1 := h1
  have lt1 : ∀ x ∈ p1, x.block < W.heap.size := by obtain ⟨m, hm⟩ := k1; exact DataW.trod_lt m _ _ _ hm
  have k2 := h2
  have lt2 : ∀ x ∈ p2, x.block < W.heap.size := by obtain ⟨m, hm⟩ := k2; exact DataW.trod_lt m _ _ _ hm
  obtain ⟨a0, rfl, rfl, rfl, w0⟩ := open_string Tryd.underlying9 (hval 0 9 v0 rfl rfl) h0
  have z0 := sized_string hsz0 (j := 0) (t := 9) rfl rfl
  obtain ⟨a1, rfl, rfl, rfl, w1⟩ := open_string Tryd.underlying9 (hval 1 9 v1 rfl rfl) h1
  have z1 := sized_string hsz0 (j := 1) (t := 9) rfl rfl
  obtain ⟨a2, rfl, rfl, rfl, w2⟩ := open_string Tryd.underlying9 (hval 2 9 v2 rfl rfl) h2
  have z2 := sized_string hsz0 (j := 2) (t := 9) rfl rfl
  clear hA0
  simp only [List.append_nil] at hW'
  refine (walk a0 a1 a2 W (vs_of (tabs_of hL)) w0 (by simpa [reachBytes] using z0) w1 (by simpa [reachBytes] using z1) w2 (by simpa [reachBytes] using z2)).mono fun e W' ⟨he, bel⟩ => ?_
  subst he
  exact ⟨_, rfl, _, _, _, [], _, [], hW', trodAll_mk1 (shut_bool Tryd.underlying4 _), (trodAll_cons_mk (Below.trod laidOut (by kernel_rfl) (of_decide_eq_true (by kernel_rfl)) k0 bel lt0) (trodAll_cons_mk (Below.trod laidOut (by kernel_rfl) (of_decide_eq_true (by kernel_rfl)) k1 bel lt1) (trodAll_cons_mk (Below.trod laidOut (by kernel_rfl) (of_decide_eq_true (by kernel_rfl)) k2 bel lt2) trodAll_mk0))), rfl, bel.frame _, fun h => by cases h⟩

set_option maxRecDepth 100000 in
theorem laid_met (os : Os) : laidMet Tryd.prog Rows.diffEndsRow.laid ((laidWorld os).forCall (fun _ _ => 0) ⟨#[], #[.string ⟨#[]⟩, .string ⟨#[]⟩, .string ⟨#[]⟩], []⟩).memory :=
  (LaidIn.of_run (l := Rows.diffEndsRow.laid) [1, 0] 8 (by kernel_rfl) (by kernel_rfl) (by kernel_rfl) (by kernel_rfl)).met
theorem reads (os : Os) {H : Type} (enc : TypeId × Value → H) : ∃ places, DataW.whole enc Tryd.prog ((laidWorld os).forCall (fun _ _ => 0) ⟨#[], #[.string ⟨#[]⟩, .string ⟨#[]⟩, .string ⟨#[]⟩], []⟩).memory Tryd.f6.params.toList Rows.diffEndsSpec.vars false (#[.string ⟨#[]⟩, .string ⟨#[]⟩, .string ⟨#[]⟩] : Array Value).toList 8 = some ([.lit (.string []), .lit (.string []), .lit (.string [])], [], places) :=
  ⟨[], by kernel_rfl⟩
set_option maxRecDepth 100000 in
theorem lifted (os : Os) (started : os.Started) (H : Type) (enc : TypeId × Value → H) (F : Stop.Interp) :
    ReturnsInHanded {} Tryd.checked os 6 .any ((OpenSpec.ofChange Rows.diffEndsSpec).preRow enc Tryd.prog Tryd.f6 Rows.diffEndsRow.domain false Rows.diffEndsRow.laid) (((OpenSpec.ofChange Rows.diffEndsSpec).at F).post enc Tryd.prog Tryd.f6 false true false false) := by
  obtain ⟨places, hx⟩ := reads os enc
  refine returnsInHanded_of_row (C := Tryd.checked) (s := OpenSpec.ofChange Rows.diffEndsSpec) own started (by kernel_rfl) Tryd.func6
    (witness_row_atRef (enc := enc) (C := Tryd.checked) false (laidWorld os) #[.string ⟨#[]⟩, .string ⟨#[]⟩, .string ⟨#[]⟩] rfl (by kernel_rfl) (by kernel_rfl) (by kernel_rfl)
      (OpenSpec.preRow_of_cond 8 hx (by kernel_rfl) (fun k hk => by cases hk) (by kernel_rfl) (laid_met os))) ?_
  intro W base args ds gs before hval hW _ _ hsz hL _ _
  exact contract H enc W base args ds gs before hval hW hsz hL

theorem holds : Rows.DiffEndsSaid :=
  OpenClaim.holds_of_cond 6 Tryd.f6 rfl rfl rfl rfl rfl rfl rfl ⟨rfl, rfl, rfl, rfl, rfl⟩ rfl rfl rfl rfl rfl (by kernel_rfl) Tryd.func6 (by kernel_rfl)
    (of_decide_eq_true (by kernel_rfl)) (by unfold Func.isWrapper; first | (rw [if_pos (by decide +kernel)]; kernel_rfl) | (rw [if_neg (by decide +kernel)]; exact ⟨rfl, rfl⟩))
    (fun os started H enc _ F => by rw [OpenClaim.pre_eq_preRow]; exact lifted os started H enc F)
theorem plain (f : FuncId) (fn : Func) (hf : Tryd.pinned.checked.prog.funcNamed "oxbow/oxbowlaw11.DiffEnds" = some f) (hfn : Tryd.pinned.checked.prog.funcs[f]? = some fn) :
    true = Tryd.pinned.checked.prog.looks [] ∧ ∀ (j : Nat) t, fn.params[j]? = some t → Tryd.pinned.checked.prog.wantsStandIn t = false := by
  obtain rfl : f = 6 := Option.some.inj ((show Tryd.prog.funcNamed "oxbow/oxbowlaw11.DiffEnds" = some 6 by kernel_rfl).symm.trans hf) |>.symm
  obtain rfl : fn = Tryd.f6 := (Option.some.inj (Tryd.func6.symm.trans hfn)).symm
  refine ⟨by kernel_rfl, fun j t ht => ?_⟩
  rw [Tryd.params6] at ht
  have hm := Array.mem_of_getElem? ht
  obtain rfl : t = 9 := by simpa using hm
  exact (show Tryd.prog.wantsStandIn 9 = false by kernel_rfl)
theorem card : Rows.DiffEndsCardSaid :=
  Claim7.holds_tied_plain_at .later [] _ _ _ _ holds (fun _ h => by cases h) (by kernel_rfl) (fun _ h => by cases h) diffEnds_row_tie rfl ⟨rfl, rfl⟩ (by kernel_rfl) rfl plain (by kernel_rfl)
end Go.Proofs.YtfhbkaiioiihjaaDoor.diffEnds
namespace Go.Proofs.YtfhbkaiioiihjaaDoor
theorem diffEnds_holds : Rows.DiffEndsCardSaid := diffEnds.card
#print axioms diffEnds_holds
end Go.Proofs.YtfhbkaiioiihjaaDoor
