/-
  Proved: what is common to two commits does not hang on which is first, and of one above the other it is that one (the law DagEven), for every input.
-/
import Derived.Test.YtdpkcmagegiadaaDgL
import Derived.Test.YtdpkcmagegiadaaDgP
import Derived.ChangeOld
import Derived.ShutString
namespace Go.Proofs.Ytdpkcmagegiadaa.dagEven
open Go.RowKit Go.ChangeShapes Go.WideShapes Go.ChangeAt Go.PlainAid

set_option maxRecDepth 20000 in
set_option maxHeartbeats 4000000 in
theorem walk (v : Value) (L : List Lk) (a b : Int) (w : World) (hv : RdL w v L) (hl : L.length ≤ maxLen) (hok : ∀ k ∈ L, k.Ok) (a0 : -9223372036854775808 ≤ a) (a1 : a ≤ 9223372036854775807) (b0 : -9223372036854775808 ≤ b) (b1 : b ≤ 9223372036854775807) :
    Calls Try.prog 4 #[v, .int .i64 a, .int .i64 b] w fun e w' => e = .returned (.bool true) ∧ Below w.heap.size w w' := by
  have c1 := Common_any a b a0 a1 b0 b1 hv hl hok
  have c2 := fun W (hb : Below w.heap.size w W) => Common_any b a b0 b1 a0 a1 (hv.below hb) hl hok
  have c3 := fun W (hb : Below w.heap.size w W) => Above_any b b0 b1 (hv.below hb) hl hok
  simp only [co_comm L b a] at c2
  have lc := co_len L a b
  have lu := up_len L b
  have HZ : Hid ((coR L a b).2 = 0 → (upR L b).2 = 0 ∧ ((upR L b).1.contains a = true → (coR L a b).1 = [a])) := fun h => by
    obtain ⟨hg, ha, hb, e⟩ := co_zero h
    refine ⟨by rw [up_ok hg hb], fun hc => ?_⟩
    rw [e]
    rw [up_ok hg hb] at hc
    exact co_above hg ha hb (by simpa [List.contains_eq_mem] using hc)
  obtain ⟨ao, cp, rfl, _⟩ := hv
  generalize coR L a b = q at *
  generalize upR L b = r at *
  obtain ⟨C, z⟩ := q
  obtain ⟨U, y⟩ := r
  dsimp only at c1 c2 c3 lc lu HZ
  go_enter Try.func4, Try.ntmps4
  go_wp2_with fail
  refine c1.mono ?_
  rintro e w1 ⟨u1, rfl, ho1, hb1⟩
  have c2' := c2 w1 hb1
  clear c1 c2
  go_wp2_with fail
  refine c2'.mono ?_
  rintro e w2 ⟨u2, rfl, ho2, hb2⟩
  have hb12 := chain hb1 hb2
  have r1 := (rdi_own ho1).below hb2
  have r2 := rdi_own ho2
  have cS := same_eq r1 r2 (by omega)
  clear c2' ho1 ho2 hb1 hb2
  go_wp2_with fail
  refine cS.mono ?_
  rintro e w3 ⟨rfl, hb3⟩
  have hb13 := chain hb12 hb3
  have r1 := r1.below hb3
  have c3' := c3 w3 hb13
  clear cS c3 hb12 hb3 r2
  go_wp2_with fail
  refine c3'.mono ?_
  rintro e w4 ⟨u4, rfl, ho4, hb4⟩
  have hb14 := chain hb13 hb4
  have r1 := r1.below hb4
  have r4 := rdi_own ho4
  clear c3' hb13 hb4 ho4
  by_cases hz : z = 0
  · subst hz
    obtain ⟨rfl, HC⟩ := HZ.out rfl
    have cH := lhas_any a r4 (by omega)
    cases hc : U.contains a with
    | false =>
      rw [hc] at cH
      clear HZ HC hc
      go_wp2_with fail
      refine cH.mono ?_
      rintro e w5 ⟨rfl, rfl⟩
      clear cH
      go_wp2_with (go_at_call 16; refine (live_any _).mono ?_; rintro e w6 ⟨rfl, hb6⟩)
      go_ret
      exact ⟨rfl, chain hb14 hb6⟩
    | true =>
      rw [hc] at cH
      have hC := HC hc
      subst hC
      clear HZ HC hc
      go_wp2_with fail
      refine cH.mono ?_
      rintro e w5 ⟨rfl, rfl⟩
      have a5 := alloc_below w5 (.cells #[.int .i64 a] 3)
      have cS := same_eq (r1.below a5) (rdi_built w5 [a]) (by simp)
      clear cH r1
      go_wp2_with (first | (go_at_call 14; refine cS.mono ?_; rintro e w5 ⟨rfl, hb5⟩) | (go_at_call 16; refine (live_any _).mono ?_; rintro e w6 ⟨rfl, hb6⟩))
      go_ret
      exact ⟨rfl, chain hb14 (chain (chain a5 hb5) hb6)⟩
  · have hz' : (z != 0) = true := by simpa using hz
    clear HZ hz r1 r4 lc lu
    go_wp2_with (go_at_call 16; refine (live_any _).mono ?_; rintro e w6 ⟨rfl, hb6⟩)
    go_ret
    exact ⟨rfl, chain hb14 hb6⟩

theorem own : ownKnob Try.prog.godebug = none := by kernel_rfl
theorem laidOut : laidOutB Try.prog = true := by kernel_rfl

set_option maxRecDepth 20000 in
theorem contract (H : Type) (enc : TypeId × Value → H) (W : World) (base : Nat) (args : Array Value) (ds gs : List (DataW H)) (before : List MemPlace)
    (hval : ∀ (j : Nat) t v, Try.f4.params[j]? = some t → args[j]? = some v → Value.okWide Try.prog W .any base t v)
    (hW : DataW.Whole enc Try.prog Try.f4.params.toList Rows.dagEvenSpec.vars false W args.toList ds gs before) :
    Calls Try.prog 4 args W fun e W' => ∃ v, e = .returned v ∧ Rows.dagEvenSpec.post enc Try.prog Try.f4 false true false false W args v W' := by
  have hW' := hW
  obtain ⟨p, q, hA0, hV, rfl, hfz, hnd⟩ := hW
  have hA : DataW.TrodAll enc Try.prog W 0 (fun _ => true) true Try.f4.params.toList args.toList ds p := hA0
  rw [Try.params4] at hA hval
  obtain ⟨v0, vs0, d0, ds0, p0, q0, hargs, rfl, rfl, h0, r0⟩ := trodAll_cons hA
  obtain ⟨v1, vs1, d1, ds1, p1, q1, rfl, rfl, rfl, h1, r1⟩ := trodAll_cons r0
  obtain ⟨v2, vs2, d2, ds2, p2, q2, rfl, rfl, rfl, h2, r2⟩ := trodAll_cons r1
  obtain ⟨rfl, rfl, rfl⟩ := trodAll_nil r2
  obtain rfl : args = #[v0, v1, v2] := by cases args; simp_all
  obtain ⟨rfl, rfl⟩ := trodVars_none hV
  have k0 := h0
  have lt0 : ∀ x ∈ p0, x.block < W.heap.size := by obtain ⟨m, hm⟩ := k0; exact DataW.trod_lt m _ _ _ hm
  have k1 := h1
  have lt1 : ∀ x ∈ p1, x.block < W.heap.size := by obtain ⟨m, hm⟩ := k1; exact DataW.trod_lt m _ _ _ hm
  have k2 := h2
  have lt2 : ∀ x ∈ p2, x.block < W.heap.size := by obtain ⟨m, hm⟩ := k2; exact DataW.trod_lt m _ _ _ hm
  obtain ⟨a0, len0, cap0, rfl⟩ := okWide_slice Try.underlying22 (hval 0 22 v0 rfl rfl)
  obtain ⟨fuel0, hf0⟩ := h0
  obtain ⟨l0, rd0, ln0, ok0⟩ := open_ops hf0
  obtain ⟨a1, rfl, rfl, rfl, w1⟩ := open_int Try.underlying3 (hval 1 3 v1 rfl rfl) h1
  obtain ⟨a2, rfl, rfl, rfl, w2⟩ := open_int Try.underlying3 (hval 2 3 v2 rfl rfl) h2
  clear hA0
  simp only [List.append_nil] at hW'
  refine (walk (.slice a0 len0 cap0) l0 a1 a2 W rd0 ln0 ok0 (wf_bd w1).1 (wf_bd w1).2 (wf_bd w2).1 (wf_bd w2).2).mono fun e W' ⟨he, bel⟩ => ?_
  subst he
  exact ⟨_, rfl, _, _, _, [], _, [], hW', trodAll_mk1 (shut_bool Try.underlying4 _), (trodAll_cons_mk (Below.trod laidOut (by kernel_rfl) (of_decide_eq_true (by kernel_rfl)) k0 bel lt0) (trodAll_cons_mk (Below.trod laidOut (by kernel_rfl) (of_decide_eq_true (by kernel_rfl)) k1 bel lt1) (trodAll_cons_mk (Below.trod laidOut (by kernel_rfl) (of_decide_eq_true (by kernel_rfl)) k2 bel lt2) trodAll_mk0))), rfl, bel.frame _, fun h => by cases h⟩

set_option maxRecDepth 100000 in
theorem lifted (os : Os) (started : os.Started) (H : Type) (enc : TypeId × Value → H) :
    ReturnsInHanded {} Try.checked os 4 .any (Rows.dagEvenSpec.pre6 enc Try.prog Try.f4 Rows.dagEvenRow.domain false) (Rows.dagEvenSpec.post enc Try.prog Try.f4 false true false false) := by
  refine returnsInHanded_of_change (C := Try.checked) own started (by kernel_rfl) Try.func4
    (ChangeSpec.witness6 (enc := enc) (C := Try.checked) false ⟨#[], #[.slice none 0 0, .int .i64 0, .int .i64 0], []⟩ 8 (by kernel_rfl) (by kernel_rfl) (by kernel_rfl) (by kernel_rfl)) ?_
  intro W base args ds gs before hval hW _ _
  exact contract H enc W base args ds gs before hval hW

theorem holds : Rows.DagEvenSaid :=
  OpenClaim.holds_of_wide 4 Try.f4 rfl rfl rfl rfl rfl rfl rfl ⟨rfl, rfl, rfl, rfl, rfl⟩ rfl rfl rfl rfl rfl (by kernel_rfl) Try.func4 (by kernel_rfl)
    (of_decide_eq_true (by kernel_rfl)) (by unfold Func.isWrapper; first | (rw [if_pos (by decide +kernel)]; kernel_rfl) | (rw [if_neg (by decide +kernel)]; exact ⟨rfl, rfl⟩))
    (fun os started H enc _ => lifted os started H enc)
end Go.Proofs.Ytdpkcmagegiadaa.dagEven
namespace Go.Proofs.Ytdpkcmagegiadaa
theorem dagEven_holds : Rows.DagEvenSaid := dagEven.holds
#print axioms dagEven_holds
end Go.Proofs.Ytdpkcmagegiadaa
