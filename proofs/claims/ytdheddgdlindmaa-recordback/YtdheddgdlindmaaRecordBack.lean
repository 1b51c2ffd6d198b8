/-
  Proved: a state that has a form is loaded from its pairs again, whose keys rise; one that has none gives no pairs (the law RecordBack), for every input.
-/
import Derived.Test.YtdheddgdlindmaaRcX
import Derived.Test.YtdheddgdlindmaaRcY
import Derived.Test.YtdheddgdlindmaaRcZ
import Derived.Test.YtdheddgdlindmaaRows
namespace Go.Proofs.Ytdheddgdlindmaa.recordBack
open Go.ChangeShapes Go.WideShapes Go.ChangeAt Go.RowKit Go.PlainAid

theorem val_sz {S : StD} (h : stF S = true) : ∀ x ∈ prD S, x.v.size ≤ 1099511627776 := by
  have hk := st_ok h
  intro x hx
  unfold prD at hx
  simp only [List.mem_append, List.mem_map, List.mem_singleton] at hx
  rcases hx with ((⟨y, hy, rfl⟩ | ⟨y, hy, rfl⟩) | rfl) | ⟨y, hy, rfl⟩
  · have hb := hk.bs y hy
    have l1 := nmB_len [y.i.toNat]
    have l2 := txsR_len [y.nm]
    have l3 := nmB_len (y.lg.length :: y.lg.map Int.toNat)
    have l4 := (brF_nums hb.2.2).1
    unfold brP
    simp only [mk_size, List.length_append]
    simp only [List.length_cons, List.length_nil, List.length_map] at l1 l2 l3
    omega
  · have hb := hk.cs y hy
    have l1 := nmB_len [y.n.toNat]
    have l2 := txsR_len (dfsR [y.d, y.o])
    have l3 := nmB_len (y.ps.length :: y.ps.map Int.toNat)
    have l4 := (coF_facts hb.2.2).1.1
    have l5 := nmB_len [y.c.toNat, y.s.toNat]
    unfold coP
    simp only [mk_size, List.length_append]
    simp only [List.length_cons, List.length_nil, List.length_map, dfsR] at l1 l2 l3 l5
    simp only [dfsR]
    omega
  · have l1 := nmB_len [S.nc.toNat, S.nb.toNat]
    unfold nxP
    simp only [mk_size]
    simp only [List.length_cons, List.length_nil] at l1
    omega
  · have l1 := nmB_len [y.c.toNat, y.b.toNat, y.s.toNat]
    unfold cuP
    simp only [mk_size]
    simp only [List.length_cons, List.length_nil] at l1
    omega
set_option maxRecDepth 20000 in
set_option maxHeartbeats 3000000 in
theorem walk (S : StD) (v1 v2 v3 : Value) (w : World) (hr : RdSt w v1 v2 v3 S) (hU : StU false S) :
    Calls Try.prog 6 #[.agg (S.fs v1 v2 v3)] w fun e w' => e = .returned (.bool true) ∧ Below w.heap.size w w' := by
  have hF := hU.fit
  have hal := alloc_bR w (.cells (S.fs v1 v2 v3) 26)
  have hx := sb_new w S v1 v2 v3
  have hr1 := hr.below hal
  have cP := pairs_any S v1 v2 v3 _ hr1 hF
  have hls : S.cs.length ≤ 9223372036854775000 ∧ S.bs.length ≤ 9223372036854775000 ∧ S.us.length ≤ 9223372036854775000 := by
    have := hU.cl.1; have := hU.bl.1; have := hU.ul.1; omega
  obtain ⟨a1, k1, e1, -⟩ := hr.c
  obtain ⟨a2, k2, e2, -⟩ := hr.b
  obtain ⟨a3, k3, e3, -⟩ := hr.u
  generalize hw1 : w.alloc (.cells (S.fs v1 v2 v3) 26) = w1 at *
  have hcS : ∀ (T : StD) (u1 u2 u3 : Value) (W : World), T = S → RdSt W u1 u2 u3 S → Below w1.heap.size w1 W → Calls Try.prog 12 #[.agg (S.fs v1 v2 v3), .agg (S.fs u1 u2 u3)] W fun e w' => e = .returned (.bool true) ∧ Below W.heap.size W w' := fun T u1 u2 u3 W _ h hb => same15_true S v1 v2 v3 u1 u2 u3 W (hr1.below hb) h hF hls
  clear hr
  subst e1 e2 e3
  obtain ⟨x0, x1, x2, x3, x4⟩ := cellsSB hx
  cases hst : stF S with
  | false =>
    rw [prE, if_neg (by rw [hst]; decide)] at cP
    simp only [StD.fs] at cP hw1 hx ⊢
    clear hcS hr1
    go_enter Try.func6, Try.ntmps6
    go_wp2_with fail
    refine cP.mono ?_
    rintro e w2 ⟨dv, rfl, ho, hb2⟩
    obtain ⟨a9, k9, rfl⟩ := own_form ho
    have cl := live15_any w2
    go_wp2_with fail
    refine cl.mono ?_
    rintro e w3 ⟨rfl, hb3⟩
    go_wp2_with fail
    go_ret
    exact ⟨rfl, (hal.trans (hb2.mono hal.size)).trans (hb3.mono (Nat.le_trans hal.size hb2.size))⟩
  | true =>
    have hL := ldE_back hst hF
    have hsz := val_sz hst
    have hri := pr_rise hst
    have hlen : (prD S).length ≤ 1000 := by
      have := prE_len S
      rwa [prE, if_pos hst] at this
    rw [prE, if_pos hst] at cP
    generalize prD S = L at *
    simp only [StD.fs] at cP hw1 hx ⊢
    clear hst
    go_enter Try.func6, Try.ntmps6
    go_wp2_with fail
    refine cP.mono ?_
    rintro e w2 ⟨dv, rfl, ho, hb2⟩
    have hRd := rdpa_own ho
    have cL := fun W (h : Below w2.heap.size w2 W) => load_any dv L W (hRd.below h) (by omega) hsz
    rw [hL] at cL
    obtain ⟨a9, k9, rfl, hcs⟩ := hRd
    have hB2 := hal.trans (hb2.mono hal.size)
    clear x0 x1 x2 x3 x4 cP ho hsz hL
    go_wp2_with fail
    go_loopw [5] (fun i wr => ∃ k : Nat, 1 ≤ k ∧ i = .int .i64 (k : Int) ∧ k ≤ L.length + 1 ∧ Below w2.heap.size w2 wr) (fun i _ => L.length + 1 - (Go.RowKit.intOf i).toNat)
    case atStart => exact ⟨1, by omega, rfl, by omega, Below.refl _ _⟩
    case round =>
      obtain ⟨k, hk1, rfl, hk2, hbl⟩ := hrel
      by_cases hlt : k < L.length
      · have hlt' : (k : Int) < (L.length : Int) := by omega
        obtain ⟨j, rfl⟩ : ∃ j, k = j + 1 := ⟨k - 1, by omega⟩
        obtain ⟨g, off, rfl, hg, c0, -⟩ := hcs j L[j] (by simp)
        obtain ⟨g', off', e', -, c2, -⟩ := hcs (j + 1) L[j + 1] (by simp [hlt])
        simp only [Option.some.injEq, Addr.mk.injEq] at e'
        obtain ⟨rfl, rfl, -⟩ := e'
        have hless : Op.bytesLess L[j].k.toList L[j + 1].k.toList = true := List.pairwise_iff_getElem.1 hri j (j + 1) (by omega) hlt (by omega)
        rw [← hbl.cell (p := ⟨g, _, none⟩) hg] at c0 c2
        generalize L[j].k = ka at *
        generalize L[j + 1].k = kb at *
        have hj0 : (j : Int) < (L.length : Int) := by omega
        have hw0 : IntKind.i64.wrap ((j : Int) + 1 - 1) = (j : Int) := by rw [IntKind.wrap_i64]; omega
        have hw2' : ((j : Int) + 1 - 1) = (j : Int) := by omega
        clear hcs cL hri
        go_wp2_with fail
        go_region
        go_wp2_with fail
        exact ⟨⟨j + 1 + 1, by omega, by go_num, by omega, Below.drew hbl⟩, by simp [Go.RowKit.intOf]; omega⟩
      · have hlt' : ¬ (k : Int) < (L.length : Int) := by omega
        clear hcs hri
        have cL' := cL wr hbl
        simp only [StD.fs] at cL'
        clear cL
        go_wp2_with fail
        refine cL'.mono ?_
        rintro e w6 ⟨u1, u2, u3, rfl, ⟨us, ls, ho6⟩, hb6⟩
        have hB6 := hbl.trans (hb6.mono hbl.size)
        have b7 := alloc_bR w6 (.cells (S.fs u1 u2 u3) 26)
        have h7 := sb_new w6 S u1 u2 u3
        have h67 := hx.below ((hb2.trans (hB6.mono hb2.size)).trans (b7.mono (Nat.le_trans hb2.size hB6.size)))
        have cS := hcS S u1 u2 u3 _ rfl (ho6.rd.below b7) ((hb2.trans (hB6.mono hb2.size)).trans (b7.mono (Nat.le_trans hb2.size hB6.size)))
        have cl := fun W => live15_any W
        have hB7 := (hB2.trans (hB6.mono hB2.size)).trans (b7.mono (Nat.le_trans hB2.size hB6.size))
        obtain ⟨a4, k4, rfl⟩ := own_form ho6.c.row
        obtain ⟨a5, k5, rfl⟩ := own_form ho6.b.row
        obtain ⟨a6, k6, rfl⟩ := own_form ho6.u
        simp only [StD.fs] at cS b7 h7 h67 hB7
        obtain ⟨w7, hw7⟩ : ∃ w7, w7 = w6.alloc (.cells #[.int .i64 S.nc, .int .i64 S.nb, .slice a4 S.cs.length k4, .slice a5 S.bs.length k5, .slice a6 S.us.length k6] 26) := ⟨_, rfl⟩
        rw [← hw7] at cS h7 h67 hB7
        obtain ⟨x0, x1, x2, x3, x4⟩ := cellsSB h67
        obtain ⟨y0, y1, y2, y3, y4⟩ := cellsSB h7
        rw [hw7] at x0 x1 x2 x3 x4 y0 y1 y2 y3 y4
        clear cL' hcS ho6 hx h67 h7 b7
        go_wp2_with fail
        rw [← hw7]
        refine cS.mono ?_
        rintro e w8 ⟨rfl, hb8⟩
        clear x0 x1 x2 x3 x4 y0 y1 y2 y3 y4 cS
        go_wp2_with fail
        refine (cl _).mono ?_
        rintro e w9 ⟨rfl, hb9⟩
        go_wp2_with fail
        go_ret
        exact ⟨rfl, (hB7.trans (hb8.mono hB7.size)).trans (hb9.mono (Nat.le_trans hB7.size hb8.size))⟩

theorem own : ownKnob Try.prog.godebug = none := by kernel_rfl
theorem laidOut : laidOutB Try.prog = true := by kernel_rfl

set_option maxRecDepth 20000 in
theorem contract (H : Type) (enc : TypeId × Value → H) (W : World) (base : Nat) (args : Array Value) (ds gs : List (DataW H)) (before : List MemPlace)
    (hval : ∀ (j : Nat) t v, Try.f6.params[j]? = some t → args[j]? = some v → Value.okWide Try.prog W .any base t v)
    (hW : DataW.Whole enc Try.prog Try.f6.params.toList Rows.recordBackSpec.vars false W args.toList ds gs before) (hsz0 : (DataW.weightsEach Try.prog (Try.f6.params.toList ++ Rows.recordBackSpec.plain.varTypes Try.prog) (ds ++ gs)).all (· ≤ reachBytes) = true) :
    Calls Try.prog 6 args W fun e W' => ∃ v, e = .returned v ∧ Rows.recordBackSpec.post enc Try.prog Try.f6 false true false false W args v W' := by
  have hW' := hW
  obtain ⟨p, q, hA0, hV, rfl, hfz, hnd⟩ := hW
  have hA : DataW.TrodAll enc Try.prog W 0 (fun _ => true) true Try.f6.params.toList args.toList ds p := hA0
  rw [Try.params6] at hA hval hsz0
  obtain ⟨v0, vs0, d0, ds0, p0, q0, hargs, rfl, rfl, h0, r0⟩ := trodAll_cons hA
  obtain ⟨rfl, rfl, rfl⟩ := trodAll_nil r0
  obtain rfl : args = #[v0] := by cases args; simp_all
  obtain ⟨rfl, rfl⟩ := trodVars_none hV
  have k0 := h0
  have lt0 : ∀ x ∈ p0, x.block < W.heap.size := by obtain ⟨m, hm⟩ := k0; exact DataW.trod_lt m _ _ _ hm
  obtain ⟨fuel0, hf0⟩ := h0
  have z0 : Sz false 26 d0 := fun n hn => by simpa using List.all_eq_true.1 hsz0 n (DataW.weights_mem_each (j := 0) (t := 26) (d := d0) rfl rfl n hn)
  obtain ⟨S0, s0a, s0b, s0c, hc0, rd0, ok0⟩ := open_st od_false hf0 z0
  obtain rfl := st_val hc0
  clear hA0
  simp only [List.append_nil] at hW'
  refine (walk S0 s0a s0b s0c W rd0 ok0).mono fun e W' ⟨he, bel⟩ => ?_
  subst he
  exact ⟨_, rfl, _, _, _, [], _, [], hW', trodAll_mk1 (shut_bool Try.underlying4 _), (trodAll_cons_mk (Below.trod laidOut (by kernel_rfl) (of_decide_eq_true (by kernel_rfl)) k0 bel lt0) trodAll_mk0), rfl, bel.frame _, fun h => by cases h⟩

set_option maxRecDepth 100000 in
theorem lifted (os : Os) (started : os.Started) (H : Type) (enc : TypeId × Value → H) :
    ReturnsInHanded {} Try.checked os 6 .any (Rows.recordBackSpec.pre6 enc Try.prog Try.f6 Rows.recordBackRow.domain false) (Rows.recordBackSpec.post enc Try.prog Try.f6 false true false false) := by
  refine returnsInHanded_of_change_sized (C := Try.checked) own started (by kernel_rfl) Try.func6
    (ChangeSpec.witness6 (enc := enc) (C := Try.checked) false ⟨#[], #[.agg #[.int .i64 0, .int .i64 0, .slice none 0 0, .slice none 0 0, .slice none 0 0]], []⟩ 8 (by kernel_rfl) (by kernel_rfl) (by kernel_rfl) (by kernel_rfl)) ?_
  intro W base args ds gs before hval hW _ hsz _
  exact contract H enc W base args ds gs before hval hW hsz

theorem holds : Rows.RecordBackSaid :=
  OpenClaim.holds_of_wide 6 Try.f6 rfl rfl rfl rfl rfl rfl rfl ⟨rfl, rfl, rfl, rfl, rfl⟩ rfl rfl rfl rfl rfl (by kernel_rfl) Try.func6 (by kernel_rfl)
    (of_decide_eq_true (by kernel_rfl)) (by unfold Func.isWrapper; first | (rw [if_pos (by decide +kernel)]; kernel_rfl) | (rw [if_neg (by decide +kernel)]; exact ⟨rfl, rfl⟩))
    (fun os started H enc _ => lifted os started H enc)
end Go.Proofs.Ytdheddgdlindmaa.recordBack
namespace Go.Proofs.Ytdheddgdlindmaa
theorem recordBack_holds : Rows.RecordBackSaid := recordBack.holds
#print axioms recordBack_holds
end Go.Proofs.Ytdheddgdlindmaa
