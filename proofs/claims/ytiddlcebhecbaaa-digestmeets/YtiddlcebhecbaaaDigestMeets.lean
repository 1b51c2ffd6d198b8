/-
  Proved: there are unlike texts of one digest, and what is put behind both keeps it so (the law DigestMeets), for every input.
-/
import Derived.Test.YtiddlcebhecbaaaDigB
namespace Go.Proofs.Ytiddlcebhecbaaa.digestMeets
open Go.RowKit Go.ChangeShapes Go.WideShapes Go.ChangeAt Go.PlainAid
open Go.ChangeMaps (open_string shut_string)

theorem meet1 : ext 2166136261 [99, 111, 115, 116, 97, 114, 114, 105, 110, 103] = ext 2166136261 [108, 105, 113, 117, 105, 100] := by simp [ext, fnv_eq, tim_eq]
theorem meet2 : ext 2166136261 [100, 101, 99, 108, 105, 110, 97, 116, 101] = ext 2166136261 [109, 97, 99, 97, 108, 108, 117, 109, 115] := by simp [ext, fnv_eq, tim_eq]

set_option maxHeartbeats 1000000 in
theorem walk (s : ByteArray) (w : World) (_ : s.size ≤ maxLen) (hz : s.size ≤ 140737488351232) :
    Calls Try.prog 6 #[.string s] w fun e w' => e = .returned (.bool true) ∧ Below w.heap.size w w' := by
  have C : ∀ (p : ByteArray) (W : World), p.size ≤ 100 → Calls Try.prog 8 #[.string (p ++ s)] W fun e w' => e = .returned (.int .u32 (ext (ext 2166136261 p.data.toList) s.data.toList : Nat)) ∧ w' = W := fun p W hp => by
    have h := sum_any (p ++ s) W (by rw [ByteArray.size_append]; unfold maxLen; omega)
    rw [ByteArray.data_append, Array.toList_append, ext_append] at h
    exact h
  have c1 := fun W => C ⟨#[99, 111, 115, 116, 97, 114, 114, 105, 110, 103]⟩ W (by decide)
  have c2 := fun W => C ⟨#[108, 105, 113, 117, 105, 100]⟩ W (by decide)
  have c3 := fun W => C ⟨#[100, 101, 99, 108, 105, 110, 97, 116, 101]⟩ W (by decide)
  have c4 := fun W => C ⟨#[109, 97, 99, 97, 108, 108, 117, 109, 115]⟩ W (by decide)
  simp only [← meet1, ← meet2] at c1 c2 c3 c4
  generalize ext (ext 2166136261 [99, 111, 115, 116, 97, 114, 114, 105, 110, 103]) s.data.toList = m1 at c1 c2
  generalize ext (ext 2166136261 [100, 101, 99, 108, 105, 110, 97, 116, 101]) s.data.toList = m2 at c3 c4
  clear C
  go_enter Try.func6, Try.ntmps6
  go_wp2_with fail
  refine (live_any w).mono ?_
  rintro e w1 ⟨rfl, hb1⟩
  go_wp2_with fail
  refine (c1 w1).mono ?_
  rintro e w' ⟨rfl, hw⟩
  rw [hw]
  clear hw w' c1
  go_wp2_with fail
  refine (c2 w1).mono ?_
  rintro e w' ⟨rfl, hw⟩
  rw [hw]
  clear hw w' c2
  go_wp2_with fail
  refine (c3 w1).mono ?_
  rintro e w' ⟨rfl, hw⟩
  rw [hw]
  clear hw w' c3
  go_wp2_with fail
  refine (c4 w1).mono ?_
  rintro e w' ⟨rfl, hw⟩
  rw [hw]
  clear hw w' c4
  go_wp2
  go_ret
  exact ⟨rfl, hb1⟩

theorem own : ownKnob Try.prog.godebug = none := by kernel_rfl
theorem laidOut : laidOutB Try.prog = true := by kernel_rfl

set_option maxRecDepth 20000 in
theorem contract (H : Type) (enc : TypeId × Value → H) (W : World) (base : Nat) (args : Array Value) (ds gs : List (DataW H)) (before : List MemPlace)
    (hval : ∀ (j : Nat) t v, Try.f6.params[j]? = some t → args[j]? = some v → Value.okWide Try.prog W .any base t v)
    (hW : DataW.Whole enc Try.prog Try.f6.params.toList Rows.digestMeetsSpec.vars false W args.toList ds gs before) (hsz0 : (DataW.weightsEach Try.prog (Try.f6.params.toList ++ Rows.digestMeetsSpec.plain.varTypes Try.prog) (ds ++ gs)).all (· ≤ reachBytes) = true) :
    Calls Try.prog 6 args W fun e W' => ∃ v, e = .returned v ∧ Rows.digestMeetsSpec.post enc Try.prog Try.f6 false true false false W args v W' := by
  have hW' := hW
  obtain ⟨p, q, hA0, hV, rfl, hfz, hnd⟩ := hW
  have hA : DataW.TrodAll enc Try.prog W 0 (fun _ => true) true Try.f6.params.toList args.toList ds p := hA0
  rw [Try.params6] at hA hval hsz0
  obtain ⟨v0, vs0, d0, ds0, p0, q0, hargs, rfl, rfl, h0, r0⟩ := trodAll_cons hA
  obtain ⟨rfl, rfl, rfl⟩ := trodAll_nil r0
  obtain rfl : args = #[v0] := by cases args; simp_all
  obtain ⟨rfl, rfl⟩ := trodVars_none hV
  have k0 := h0
  have lt0 : ∀ x ∈ p0, x.block < W.heap.size := by obtain ⟨m, hm⟩ := k0; exact DataW.trod_lt m _ _ _ hm
  obtain ⟨a0, rfl, rfl, rfl, w0⟩ := open_string Try.underlying9 (hval 0 9 v0 rfl rfl) h0
  have z0 := sized_string hsz0 (j := 0) (t := 9) rfl rfl
  clear hA0
  simp only [List.append_nil] at hW'
  refine (walk a0 W w0 (by simpa [reachBytes] using z0)).mono fun e W' ⟨he, bel⟩ => ?_
  subst he
  exact ⟨_, rfl, _, _, _, [], _, [], hW', trodAll_mk1 (shut_bool Try.underlying4 _), (trodAll_cons_mk (Below.trod laidOut (by kernel_rfl) (of_decide_eq_true (by kernel_rfl)) k0 bel lt0) trodAll_mk0), rfl, bel.frame _, fun h => by cases h⟩

set_option maxRecDepth 100000 in
theorem lifted (os : Os) (started : os.Started) (H : Type) (enc : TypeId × Value → H) :
    ReturnsInHanded {} Try.checked os 6 .any (Rows.digestMeetsSpec.pre6 enc Try.prog Try.f6 Rows.digestMeetsRow.domain false) (Rows.digestMeetsSpec.post enc Try.prog Try.f6 false true false false) := by
  refine returnsInHanded_of_change_sized (C := Try.checked) own started (by kernel_rfl) Try.func6
    (ChangeSpec.witness6 (enc := enc) (C := Try.checked) false ⟨#[], #[.string .empty], []⟩ 8 (by kernel_rfl) (by kernel_rfl) (by kernel_rfl) (by kernel_rfl)) ?_
  intro W base args ds gs before hval hW _ hsz _
  exact contract H enc W base args ds gs before hval hW hsz

theorem holds : Rows.DigestMeetsSaid :=
  OpenClaim.holds_of_wide 6 Try.f6 rfl rfl rfl rfl rfl rfl rfl ⟨rfl, rfl, rfl, rfl, rfl⟩ rfl rfl rfl rfl rfl (by kernel_rfl) Try.func6 (by kernel_rfl)
    (of_decide_eq_true (by kernel_rfl)) (by unfold Func.isWrapper; first | (rw [if_pos (by decide +kernel)]; kernel_rfl) | (rw [if_neg (by decide +kernel)]; exact ⟨rfl, rfl⟩))
    (fun os started H enc _ => lifted os started H enc)
end Go.Proofs.Ytiddlcebhecbaaa.digestMeets
namespace Go.Proofs.Ytiddlcebhecbaaa
theorem digestMeets_holds : Rows.DigestMeetsSaid := digestMeets.holds
#print axioms digestMeets_holds
end Go.Proofs.Ytiddlcebhecbaaa
