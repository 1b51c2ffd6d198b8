/-
  Proved: any bytes are read as the reference reads them (the law DeltaReads), for every input.
-/
import Derived.Test.YtoppcdnolalajaaDrD
import Derived.ChangeOld
import Derived.ShutString
namespace Go.Proofs.Ytoppcdnolalajaa.deltaReads
open Go.RowKit Go.ChangeShapes Go.WideShapes Go.ChangeAt Go.PlainAid
open Go.ChangeMaps (open_string shut_string)

theorem decR_len (s : ByteArray) : (decR s).1.length ≤ maxLen := by
  unfold maxLen decR
  split
  · simp
  · rename_i h
    rcases pk.tk_cases s 0 1125899906842624 with ⟨n, p, hr, hk, _, hp, _⟩ | ⟨er, hr, her⟩
    · rw [hr] at h ⊢
      simp only at h ⊢
      rw [Int.toNat_natCast]
      cases hd : decGo s n (p : Int) [] with
      | none => simp [decF]
      | some r =>
        obtain ⟨l, q⟩ := r
        obtain ⟨m, e, hm, _⟩ := decGo_of n p [] l q hp hd
        simp only [decF]
        split
        · simp
        · rw [e]; simp only [List.nil_append, List.length_map]; omega
    · rw [hr] at h
      simp only at h
      omega

set_option maxRecDepth 20000 in
set_option maxHeartbeats 2000000 in
theorem walk (s : ByteArray) (w : World) (hs : s.size ≤ maxLen) :
    Calls Try.prog 6 #[.string s] w fun e w' => e = .returned (.bool true) ∧ Below w.heap.size w w' := by
  have cD := decode_any s w hs
  have cR := fun W => refDecode_any s W hs
  rw [ref_dec] at cR
  have hl := decR_len s
  have cS := fun a b W h1 h2 => same_true a b (decR s).1 W hl h1 h2
  generalize decR s = r at *
  obtain ⟨r1, r2⟩ := r
  simp only at cD cR cS
  clear hl
  go_enter Try.func6, Try.ntmps6
  go_wp2_with (first | (go_at_call 24; refine cD.mono ?_; rintro e w1 ⟨u1, rfl, ho1, hb1⟩) | (go_at_call 25; refine (cR _).mono ?_; rintro e w2 ⟨u2, rfl, ho2, hb2⟩) | (go_at_call 18; refine (cS _ _ _ ((rdd_own ho1).below hb2) (rdd_own ho2)).mono ?_; rintro e w3 ⟨rfl, hb3⟩) | (go_at_call 19; refine (live_any _).mono ?_; rintro e w4 ⟨rfl, hb4⟩))
  go_ret
  exact ⟨rfl, chain (chain (chain hb1 hb2) hb3) hb4⟩

theorem own : ownKnob Try.prog.godebug = none := by kernel_rfl
theorem laidOut : laidOutB Try.prog = true := by kernel_rfl

set_option maxRecDepth 20000 in
theorem contract (H : Type) (enc : TypeId × Value → H) (W : World) (base : Nat) (args : Array Value) (ds gs : List (DataW H)) (before : List MemPlace)
    (hval : ∀ (j : Nat) t v, Try.f6.params[j]? = some t → args[j]? = some v → Value.okWide Try.prog W .any base t v)
    (hW : DataW.Whole enc Try.prog Try.f6.params.toList Rows.deltaReadsSpec.vars false W args.toList ds gs before) :
    Calls Try.prog 6 args W fun e W' => ∃ v, e = .returned v ∧ Rows.deltaReadsSpec.post enc Try.prog Try.f6 false true false false W args v W' := by
  have hW' := hW
  obtain ⟨p, q, hA0, hV, rfl, hfz, hnd⟩ := hW
  have hA : DataW.TrodAll enc Try.prog W 0 (fun _ => true) true Try.f6.params.toList args.toList ds p := hA0
  rw [Try.params6] at hA hval
  obtain ⟨v0, vs0, d0, ds0, p0, q0, hargs, rfl, rfl, h0, r0⟩ := trodAll_cons hA
  obtain ⟨rfl, rfl, rfl⟩ := trodAll_nil r0
  obtain rfl : args = #[v0] := by cases args; simp_all
  obtain ⟨rfl, rfl⟩ := trodVars_none hV
  have k0 := h0
  have lt0 : ∀ x ∈ p0, x.block < W.heap.size := by obtain ⟨m, hm⟩ := k0; exact DataW.trod_lt m _ _ _ hm
  obtain ⟨a0, rfl, rfl, rfl, w0⟩ := open_string Try.underlying9 (hval 0 9 v0 rfl rfl) h0
  clear hA0
  simp only [List.append_nil] at hW'
  refine (walk a0 W w0).mono fun e W' ⟨he, bel⟩ => ?_
  subst he
  exact ⟨_, rfl, _, _, _, [], _, [], hW', trodAll_mk1 (shut_bool Try.underlying4 _), (trodAll_cons_mk (Below.trod laidOut (by kernel_rfl) (of_decide_eq_true (by kernel_rfl)) k0 bel lt0) trodAll_mk0), rfl, bel.frame _, fun h => by cases h⟩

set_option maxRecDepth 100000 in
theorem lifted (os : Os) (started : os.Started) (H : Type) (enc : TypeId × Value → H) :
    ReturnsInHanded {} Try.checked os 6 .any (Rows.deltaReadsSpec.pre6 enc Try.prog Try.f6 Rows.deltaReadsRow.domain false) (Rows.deltaReadsSpec.post enc Try.prog Try.f6 false true false false) := by
  refine returnsInHanded_of_change (C := Try.checked) own started (by kernel_rfl) Try.func6
    (ChangeSpec.witness6 (enc := enc) (C := Try.checked) false ⟨#[], #[.string .empty], []⟩ 8 (by kernel_rfl) (by kernel_rfl) (by kernel_rfl) (by kernel_rfl)) ?_
  intro W base args ds gs before hval hW _ _
  exact contract H enc W base args ds gs before hval hW

theorem holds : Rows.DeltaReadsSaid :=
  OpenClaim.holds_of_wide 6 Try.f6 rfl rfl rfl rfl rfl rfl rfl ⟨rfl, rfl, rfl, rfl, rfl⟩ rfl rfl rfl rfl rfl (by kernel_rfl) Try.func6 (by kernel_rfl)
    (of_decide_eq_true (by kernel_rfl)) (by unfold Func.isWrapper; first | (rw [if_pos (by decide +kernel)]; kernel_rfl) | (rw [if_neg (by decide +kernel)]; exact ⟨rfl, rfl⟩))
    (fun os started H enc _ => lifted os started H enc)
end Go.Proofs.Ytoppcdnolalajaa.deltaReads
namespace Go.Proofs.Ytoppcdnolalajaa
theorem deltaReads_holds : Rows.DeltaReadsSaid := deltaReads.holds
#print axioms deltaReads_holds
end Go.Proofs.Ytoppcdnolalajaa
