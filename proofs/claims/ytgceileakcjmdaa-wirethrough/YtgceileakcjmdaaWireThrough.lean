/-
  Proved: a delta that went over the wire does to a text what it did ahead (the law WireThrough), for every input.
-/
import Derived.Test.YtgceileakcjmdaaWrK
import Derived.ChangeOld
import Derived.ShutString
namespace Go.Proofs.Ytgceileakcjmdaa.wireThrough
open Go.RowKit Go.ChangeShapes Go.WideShapes Go.ChangeAt Go.PlainAid
open Go.ChangeMaps (open_string shut_string)

set_option maxRecDepth 20000 in
set_option maxHeartbeats 1000000 in
theorem walk (m : MsD) (u : Value) (t : ByteArray) (w : World) (hr : RdD w u m.d) (hm : m.d.length ≤ 4398046511104) (hio : ∀ o ∈ m.d, o.In ∧ o.Ok) (hs : t.size ≤ maxLen) (_hs2 : t.size ≤ 140737488351232) :
    Calls Try.prog 6 #[.agg (m.fs u), .string t] w fun e w' => e = .returned (.bool true) ∧ Below w.heap.size w w' := by
  have hm' : m.d.length ≤ maxLen := by unfold maxLen; omega
  have hi : ∀ o ∈ m.d, o.In := fun o ho => (hio o ho).1
  have hB : Below w.heap.size w (w.alloc (.cells (m.fs u) 24)) := (Below.refl _ w).alloc (Nat.le_refl _) _
  have hx : MB _ _ m u := heap_alloc_new w (.cells (m.fs u) 24)
  have hr0 := hr.below hB
  have hE := wencode_any m u _ hr0 hm' hi
  obtain ⟨ao, cp, rfl, -⟩ := hr
  clear hm hio
  cases hM : mayM m
  · have e0 : weR m = (⟨#[]⟩, 160) := by rw [weR, hM]; rfl
    rw [e0] at hE
    clear e0 hM hx hr0 hm' hi
    unfold MsD.fs at hE hB ⊢
    go_enter Try.func6, Try.ntmps6
    go_wp2_with fail
    refine hE.mono ?_
    rintro e w1 ⟨rfl, hb1⟩
    clear hE
    go_wp2_with fail
    refine (live16_any w1).mono ?_
    rintro e w2 ⟨rfl, hb2⟩
    go_wp2_with fail
    go_ret
    have hB1 := hB.trans (hb1.mono hB.size)
    exact ⟨rfl, chain hB1 hb2⟩
  · have e0 : weR m = (mk (frmB m), 0) := by rw [weR, hM]; rfl
    rw [e0] at hE
    have hD := fun W => wdecode_any (mk (frmB m)) W (by rw [mk_size]; have := frmB_len m hi; unfold maxLen; omega)
    rw [wd_form hM hi] at hD
    simp only at hD
    have hA := fun v W h => apply_any t v m.d W hs h hm' hi
    have hl : ((mk (frmB m)).size : Int) ≤ 30000 := by rw [mk_size]; have := frmB_len m hi; omega
    generalize apR t m.d = R at *
    obtain ⟨r1, r2⟩ := R
    simp only at hA
    generalize mk (frmB m) = S at *
    clear e0 hM hm' hi
    unfold MsD.fs at hE hB hr0 hx hD ⊢
    go_enter Try.func6, Try.ntmps6
    go_wp2_with fail
    refine hE.mono ?_
    rintro e w1 ⟨rfl, hb1⟩
    have hB1 := hB.trans (hb1.mono hB.size)
    have hx1 := MB.below (m := m) hx hb1
    have hr1 := hr0.below hb1
    clear hE hB hx hr0 hb1
    go_wp2_with fail
    refine (hD w1).mono ?_
    clear hD
    rintro e w2 ⟨u2, rfl, ho2, hb2⟩
    have r2 := rdd_own ho2
    obtain ⟨ao2, cp2, rfl⟩ := own_form ho2
    have hB2 := chain hB1 hb2
    have hx2 := hx1.below hb2
    have hr2 := hr1.below hb2
    clear ho2 hB1 hx1 hr1 hb2
    have hb3 : Below w2.heap.size w2 (w2.alloc (.cells (m.fs (.slice ao2 m.d.length cp2)) 24)) := (Below.refl _ w2).alloc (Nat.le_refl _) _
    have hy3 : MB (w2.alloc (.cells (m.fs (.slice ao2 m.d.length cp2)) 24)) w2.heap.size m (.slice ao2 m.d.length cp2) := heap_alloc_new w2 _
    have hx3 := hx2.below hb3
    have hr3 := hr2.below hb3
    have q3 := r2.below hb3
    have hB3 := hB2.trans (hb3.mono hB2.size)
    obtain ⟨-, -, -, -, -, -, c6⟩ := hx3.cells
    have hA1 := hA _ _ hr3
    unfold MsD.fs at hy3 hx3 hr3 q3 hB3 c6 hA1
    clear hb3 hB2 hx2 hr2 r2
    go_wp2_with fail
    generalize w2.alloc _ = w3 at *
    refine hA1.mono ?_
    clear hA1 c6
    rintro e w4 ⟨rfl, hb4⟩
    have hB4 := hB3.trans (hb4.mono hB3.size)
    have hy4 := MB.below (m := m) hy3 hb4
    have q4 := q3.below hb4
    obtain ⟨-, -, -, -, -, -, c6⟩ := hy4.cells
    have hA1 := hA _ _ q4
    clear hA hB3 hb4 hy3 hx3 hr3 q3 hy4 q4
    go_wp2_with fail
    refine hA1.mono ?_
    clear hA1 c6
    rintro e w5 ⟨rfl, hb5⟩
    have hB5 := hB4.trans (hb5.mono hB4.size)
    clear hB4 hb5
    go_wp2_with fail
    refine (live16_any w5).mono ?_
    rintro e w6 ⟨rfl, hb6⟩
    go_wp2_with fail
    go_ret
    exact ⟨rfl, chain hB5 hb6⟩

theorem own : ownKnob Try.prog.godebug = none := by kernel_rfl
theorem laidOut : laidOutB Try.prog = true := by kernel_rfl

set_option maxRecDepth 20000 in
theorem contract (H : Type) (enc : TypeId × Value → H) (W : World) (base : Nat) (args : Array Value) (ds gs : List (DataW H)) (before : List MemPlace)
    (hval : ∀ (j : Nat) t v, Try.f6.params[j]? = some t → args[j]? = some v → Value.okWide Try.prog W .any base t v)
    (hW : DataW.Whole enc Try.prog Try.f6.params.toList Rows.wireThroughSpec.vars false W args.toList ds gs before) (hsz0 : (DataW.weightsEach Try.prog (Try.f6.params.toList ++ Rows.wireThroughSpec.plain.varTypes Try.prog) (ds ++ gs)).all (· ≤ reachBytes) = true) :
    Calls Try.prog 6 args W fun e W' => ∃ v, e = .returned v ∧ Rows.wireThroughSpec.post enc Try.prog Try.f6 false true false false W args v W' := by
  have hW' := hW
  obtain ⟨p, q, hA0, hV, rfl, hfz, hnd⟩ := hW
  have hA : DataW.TrodAll enc Try.prog W 0 (fun _ => true) true Try.f6.params.toList args.toList ds p := hA0
  rw [Try.params6] at hA hval hsz0
  obtain ⟨v0, vs0, d0, ds0, p0, q0, hargs, rfl, rfl, h0, r0⟩ := trodAll_cons hA
  obtain ⟨v1, vs1, d1, ds1, p1, q1, rfl, rfl, rfl, h1, r1⟩ := trodAll_cons r0
  obtain ⟨rfl, rfl, rfl⟩ := trodAll_nil r1
  obtain rfl : args = #[v0, v1] := by cases args; simp_all
  obtain ⟨rfl, rfl⟩ := trodVars_none hV
  have k0 := h0
  have lt0 : ∀ x ∈ p0, x.block < W.heap.size := by obtain ⟨m, hm⟩ := k0; exact DataW.trod_lt m _ _ _ hm
  have k1 := h1
  have lt1 : ∀ x ∈ p1, x.block < W.heap.size := by obtain ⟨m, hm⟩ := k1; exact DataW.trod_lt m _ _ _ hm
  obtain ⟨fuel0, hf0⟩ := h0
  have z0 : ∀ n ∈ d0.weights Try.prog 24, n ≤ reachBytes := fun n hn => by simpa using List.all_eq_true.1 hsz0 n (DataW.weights_mem_each (j := 0) (t := 24) (d := d0) rfl rfl n hn)
  obtain ⟨l0, u0, hc0, rd0, ln0, ok0⟩ := open_msz hf0 z0
  obtain rfl := ms_val hc0
  obtain ⟨a1, rfl, rfl, rfl, w1⟩ := open_string Try.underlying9 (hval 1 9 v1 rfl rfl) h1
  have z1 := sized_string hsz0 (j := 1) (t := 9) rfl rfl
  clear hA0
  simp only [List.append_nil] at hW'
  refine (walk l0 u0 a1 W rd0 ln0 ok0 w1 (by simpa [reachBytes] using z1)).mono fun e W' ⟨he, bel⟩ => ?_
  subst he
  exact ⟨_, rfl, _, _, _, [], _, [], hW', trodAll_mk1 (shut_bool Try.underlying4 _), (trodAll_cons_mk (Below.trod laidOut (by kernel_rfl) (of_decide_eq_true (by kernel_rfl)) k0 bel lt0) (trodAll_cons_mk (Below.trod laidOut (by kernel_rfl) (of_decide_eq_true (by kernel_rfl)) k1 bel lt1) trodAll_mk0)), rfl, bel.frame _, fun h => by cases h⟩

set_option maxRecDepth 100000 in
theorem lifted (os : Os) (started : os.Started) (H : Type) (enc : TypeId × Value → H) :
    ReturnsInHanded {} Try.checked os 6 .any (Rows.wireThroughSpec.pre6 enc Try.prog Try.f6 Rows.wireThroughRow.domain false) (Rows.wireThroughSpec.post enc Try.prog Try.f6 false true false false) := by
  refine returnsInHanded_of_change_sized (C := Try.checked) own started (by kernel_rfl) Try.func6
    (ChangeSpec.witness6 (enc := enc) (C := Try.checked) false ⟨#[], #[.agg #[.int .i64 0, .int .i64 0, .int .i64 0, .int .i64 0, .int .i64 0, .int .i64 0, .slice none 0 0], .string .empty], []⟩ 8 (by kernel_rfl) (by kernel_rfl) (by kernel_rfl) (by kernel_rfl)) ?_
  intro W base args ds gs before hval hW _ hsz _
  exact contract H enc W base args ds gs before hval hW hsz

theorem holds : Rows.WireThroughSaid :=
  OpenClaim.holds_of_wide 6 Try.f6 rfl rfl rfl rfl rfl rfl rfl ⟨rfl, rfl, rfl, rfl, rfl⟩ rfl rfl rfl rfl rfl (by kernel_rfl) Try.func6 (by kernel_rfl)
    (of_decide_eq_true (by kernel_rfl)) (by unfold Func.isWrapper; first | (rw [if_pos (by decide +kernel)]; kernel_rfl) | (rw [if_neg (by decide +kernel)]; exact ⟨rfl, rfl⟩))
    (fun os started H enc _ => lifted os started H enc)
end Go.Proofs.Ytgceileakcjmdaa.wireThrough
namespace Go.Proofs.Ytgceileakcjmdaa
theorem wireThrough_holds : Rows.WireThroughSaid := wireThrough.holds
#print axioms wireThrough_holds
end Go.Proofs.Ytgceileakcjmdaa
