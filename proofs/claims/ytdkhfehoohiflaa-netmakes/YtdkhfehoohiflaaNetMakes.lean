/-
  Proved: a net is made with room for 1 to 3000 letters, and for no other number (the law NetMakes), for every input.
-/
import Derived.Test.YtdkhfehoohiflaaNtL
import Derived.SizedLaws
import Derived.ChangeOld
namespace Go.Proofs.Ytdkhfehoohiflaa.netMakes
open Go.Proofs.Ytdkhfehoohiflaa.nt
open Go.RowKit Go.ChangeShapes Go.WideShapes Go.ChangeAt Go.PlainAid

set_option maxRecDepth 20000 in
set_option maxHeartbeats 1000000 in
theorem walk (room : Int) (w : World) (_ : -9223372036854775808 ≤ room) (_ : room ≤ 9223372036854775807) :
    Calls Try.prog 3 #[.int .i64 room] w fun e w' => e = .returned (.bool true) ∧ Below w.heap.size w w' := by
  by_cases h : room < 1 ∨ 3000 < room
  · have c1 := new_bad room w h
    have c2 := rnew_bad room w h
    have c3 := begun_any w
    clear h
    go_enter Try.func3, Try.ntmps3
    go_wp2_with fail
    refine c1.mono ?_
    rintro e w1 ⟨rfl, rfl⟩
    go_wp2_with fail
    refine c2.mono ?_
    rintro e w2 ⟨rfl, rfl⟩
    go_wp2_with fail
    refine c3.mono ?_
    rintro e w3 ⟨rfl, hb⟩
    go_wp2_with fail
    go_ret
    exact ⟨rfl, hb⟩
  · have h1 : 1 ≤ room := by omega
    have h2 : room ≤ 3000 := by omega
    have c1 := new_fr room w h1 h2
    have c2 := fun W => rnew_ok room W h1 h2
    clear h
    go_enter Try.func3, Try.ntmps3
    go_wp2_with fail
    refine c1.mono ?_
    rintro e w1 ⟨N, rfl, -, hL, -, f1⟩
    clear c1
    go_wp2_with fail
    refine (c2 w1).mono ?_
    rintro e w2 ⟨rfl, rfl⟩
    have f2 := f1.below (grow1 w1 (.cells #[.int .i64 room, .slice none 0 0] 62))
    clear c2 f1
    have c3 := begun_any (w1.alloc (.cells #[.int .i64 room, .slice none 0 0] 62))
    go_wp2_with fail
    refine c3.mono ?_
    rintro e w3 ⟨rfl, hb3⟩
    have f3 := f2.below hb3
    clear c3 f2 hb3
    have c4 := len_any N w3 f3.net
    rw [hL] at c4
    go_wp2_with fail
    refine c4.mono ?_
    rintro e w4 ⟨rfl, rfl⟩
    have c5 := all_any N w4 f3.net
    rw [hL] at c5
    clear c4
    go_wp2_with fail
    refine c5.mono ?_
    rintro e w5 ⟨u, rfl, ho, hb5⟩
    obtain ⟨ao, cp, hu⟩ := own_form ho
    obtain rfl : u = .slice ao 0 cp := hu
    have hB := (f3.below hb5).bel
    clear c5 ho
    go_wp2_with fail
    go_ret
    exact ⟨rfl, hB⟩

theorem own : ownKnob Try.prog.godebug = none := by kernel_rfl
theorem laidOut : laidOutB Try.prog = true := by kernel_rfl

set_option maxRecDepth 20000 in
theorem contract (H : Type) (enc : TypeId × Value → H) (W : World) (base : Nat) (args : Array Value) (ds gs : List (DataW H)) (before : List MemPlace)
    (hval : ∀ (j : Nat) t v, Try.f3.params[j]? = some t → args[j]? = some v → Value.okWide Try.prog W .any base t v)
    (hW : DataW.Whole enc Try.prog Try.f3.params.toList Rows.netMakesSpec.vars false W args.toList ds gs before) :
    Calls Try.prog 3 args W fun e W' => ∃ v, e = .returned v ∧ Rows.netMakesSpec.post enc Try.prog Try.f3 false true false false W args v W' := by
  have hW' := hW
  obtain ⟨p, q, hA0, hV, rfl, hfz, hnd⟩ := hW
  have hA : DataW.TrodAll enc Try.prog W 0 (fun _ => true) true Try.f3.params.toList args.toList ds p := hA0
  rw [Try.params3] at hA hval
  obtain ⟨v0, vs0, d0, ds0, p0, q0, hargs, rfl, rfl, h0, r0⟩ := trodAll_cons hA
  obtain ⟨rfl, rfl, rfl⟩ := trodAll_nil r0
  obtain rfl : args = #[v0] := by cases args; simp_all
  obtain ⟨rfl, rfl⟩ := trodVars_none hV
  have k0 := h0
  have lt0 : ∀ x ∈ p0, x.block < W.heap.size := by obtain ⟨m, hm⟩ := k0; exact DataW.trod_lt m _ _ _ hm
  obtain ⟨a0, rfl, rfl, rfl, w0⟩ := open_int Try.underlying3 (hval 0 3 v0 rfl rfl) h0
  clear hA0
  simp only [List.append_nil] at hW'
  refine (walk a0 W (wf_bd w0).1 (wf_bd w0).2).mono fun e W' ⟨he, bel⟩ => ?_
  subst he
  exact ⟨_, rfl, _, _, _, [], _, [], hW', trodAll_mk1 (shut_bool Try.underlying4 _), (trodAll_cons_mk (Below.trod laidOut (by kernel_rfl) (of_decide_eq_true (by kernel_rfl)) k0 bel lt0) trodAll_mk0), rfl, bel.frame _, fun h => by cases h⟩

set_option maxRecDepth 100000 in
theorem lifted (os : Os) (started : os.Started) (H : Type) (enc : TypeId × Value → H) :
    ReturnsInHanded {} Try.checked os 3 .any (Rows.netMakesSpec.pre6 enc Try.prog Try.f3 Rows.netMakesRow.domain false) (Rows.netMakesSpec.post enc Try.prog Try.f3 false true false false) := by
  refine returnsInHanded_of_change (C := Try.checked) own started (by kernel_rfl) Try.func3
    (ChangeSpec.witness6 (enc := enc) (C := Try.checked) false ⟨#[], #[.int .i64 0], []⟩ 8 (by kernel_rfl) (by kernel_rfl) (by kernel_rfl) (by kernel_rfl)) ?_
  intro W base args ds gs before hval hW _ _
  exact contract H enc W base args ds gs before hval hW

theorem holds : Rows.NetMakesSaid :=
  OpenClaim.holds_of_wide 3 Try.f3 rfl rfl rfl rfl rfl rfl rfl ⟨rfl, rfl, rfl, rfl, rfl⟩ rfl rfl rfl rfl rfl (by kernel_rfl) Try.func3 (by kernel_rfl)
    (of_decide_eq_true (by kernel_rfl)) (by unfold Func.isWrapper; first | (rw [if_pos (by decide +kernel)]; kernel_rfl) | (rw [if_neg (by decide +kernel)]; exact ⟨rfl, rfl⟩))
    (fun os started H enc _ => lifted os started H enc)
end Go.Proofs.Ytdkhfehoohiflaa.netMakes
namespace Go.Proofs.Ytdkhfehoohiflaa
theorem netMakes_holds : Rows.NetMakesSaid := netMakes.holds
#print axioms netMakes_holds
end Go.Proofs.Ytdkhfehoohiflaa
