/-
  Proved: the code points of any bytes, or that they are none, are what the reference gives; what came out is the caller's to write into (the law TextPoints), where what comes in is of bulk at most 1048576.
-/
import Derived.Test.YthkkdbcflfhmaaaRefP
import Derived.ShutString
import Derived.ChangeOld
import Derived.JoinedCond
namespace Go.Proofs.Ythkkdbcflfhmaaa.textPoints
open Go.ChangeShapes Go.WideShapes Go.ChangeAt Go.RowKit Go.PlainAid
open Go.ChangeMaps (open_string shut_string)

theorem small {H : Type} {s : ByteArray} (hk : Rows.uptoSmall H [.lit (.string s.data.toList)] = true) : s.size ≤ 1048576 := by
  have h : Rows.uptoBulkAll [DataW.lit (H := H) (.string s.data.toList)] ≤ 1048576 := of_decide_eq_true hk
  simp only [Rows.uptoBulkAll, Rows.uptoBulk] at h
  rw [data_len] at h
  omega

theorem own_shape {w : World} {base e n : Nat} {v : Value} {L : List Value} (h : w.ownsRow base e 1 v n L) : ∃ ao cp, v = .slice ao n cp ∧ (0 < n → ∃ g, ao = some ⟨g, 0, none⟩ ∧ g < w.heap.size) := by
  rcases h.2 with ⟨rfl, rfl⟩ | ⟨g, cap, cur, rfl, _, hg, _⟩
  · exact ⟨none, 0, rfl, fun h => by omega⟩
  · exact ⟨_, cap, rfl, fun _ => ⟨g, rfl, (Array.getElem?_eq_some_iff.1 hg).1⟩⟩

theorem own_cell {base n g cp : Nat} {w1 : World} {L : List Value} (ho : w1.ownsRow base 3 1 (.slice (some ⟨g, 0, none⟩) n cp) n L) {j : Nat} (hj : j < n) : ∃ y, w1.cell? ⟨g, j, none⟩ = some y := by
  rw [ho.cellAt j (by omega)]
  have := ho.1
  exact ⟨L[j]'(by omega), by rw [List.getElem?_eq_getElem (by omega)]⟩

theorem readsI_of {w : World} {base n : Nat} {v : Value} {X : List Int} (hl : X.length = n) (h : w.ownsRow base 3 1 v n (iv X)) : ReadsI w v X := by
  subst hl; exact readsI_own h

theorem refLen_ok (s : ByteArray) (n : Nat) (w : World) (hs : s.size ≤ 1048576) (hv : Valid s n) :
    Calls Try.prog 13 #[.string s] w fun e w' => e = .returned (.int .i64 (n : Int)) ∧ Below w.heap.size w w' := by
  have hc := refPoints_ok s n w hs hv
  go_enter Try.func13, Try.ntmps13
  go_wp2_with (go_at_call 10; refine hc.mono ?_; rintro e w1 ⟨v, rfl, ho, hb⟩; obtain ⟨ao, cp, rfl, _⟩ := own_shape ho)
  go_ret
  exact ⟨rfl, hb⟩
theorem refLen_bad (s : ByteArray) (n : Nat) (w : World) (hs : s.size ≤ 1048576) (hv : Bad s n) :
    Calls Try.prog 13 #[.string s] w fun e w' => e = .returned (.int .i64 (-1)) ∧ Below w.heap.size w w' := by
  have hc := refPoints_bad s n w hs hv
  go_enter Try.func13, Try.ntmps13
  go_wp2_with (go_at_call 10; refine hc.mono ?_; rintro e w1 ⟨rfl, hb⟩)
  go_ret
  exact ⟨rfl, hb⟩

set_option maxRecDepth 100000 in
set_option maxHeartbeats 4000000 in
theorem walk_bad (s : ByteArray) (w : World) (k : Nat) (hs : s.size ≤ 1048576) (hb : Bad s k) :
    Calls Try.prog 3 #[.string s] w fun e w' => e = .returned (.bool true) ∧ Below w.heap.size w w' := by
  have hs' : s.size ≤ maxLen := by unfold maxLen; omega
  have cP := fun W => points_bad s k W hs' hb
  have cR := fun W => refPoints_bad s k W hs hb
  have cL := fun W => len_bad s k W hs' hb
  have cM := fun W => refLen_bad s k W hs hb
  have cS := fun W => same_true (.slice none 0 0) (.slice none 0 0) [] W (by decide) (.inl ⟨rfl, _, _, rfl⟩) (.inl ⟨rfl, _, _, rfl⟩)
  go_enter Try.func3, Try.ntmps3
  go_wp2_with (first | (go_at_call 9; refine (cP _).mono ?_; rintro e w1 ⟨rfl, rfl⟩) | (go_at_call 10; refine (cR _).mono ?_; rintro e w2 ⟨rfl, hb2⟩) | (go_at_call 11; refine (cS _).mono ?_; rintro e w3 ⟨rfl, hb3⟩))
  refine wp_loop_rounds 1 ?_
  rw [rounds_succ]
  go_wp2_with (first | (go_at_call 9; refine (cP _).mono ?_; rintro e w1 ⟨rfl, rfl⟩) | (go_at_call 11; refine (cS _).mono ?_; rintro e w4 ⟨rfl, hb4⟩) | (go_at_call 12; refine (cL _).mono ?_; rintro e w5 ⟨rfl, rfl⟩) | (go_at_call 13; refine (cM _).mono ?_; rintro e w6 ⟨rfl, hb6⟩) | (go_at_call 14; refine (live_any _).mono ?_; rintro e w7 ⟨rfl, hb7⟩))
  go_ret
  exact ⟨rfl, chain (chain (chain (chain hb2 hb3) hb4) hb6) hb7⟩

set_option maxRecDepth 100000 in
set_option maxHeartbeats 4000000 in
theorem walk_ok (s : ByteArray) (w : World) (n : Nat) (hs : s.size ≤ 1048576) (hv : Valid s n) :
    Calls Try.prog 3 #[.string s] w fun e w' => e = .returned (.bool true) ∧ Below w.heap.size w w' := by
  have hs' : s.size ≤ maxLen := by unfold maxLen; omega
  have hpn := pos_le hv.1 n (Nat.le_refl _)
  have hn : n ≤ 1048576 := by omega
  have hX := ptL_length s n
  have cP := fun W => points_ok s n W (by omega) hv
  have cR := fun W => refPoints_ok s n W hs hv
  have cL := fun W => len_ok s n W hs' hv
  have cM := fun W => refLen_ok s n W hs hv
  have cS := fun va vb W ha hb => same_true va vb (ptL s n) W (by rw [hX]; unfold maxLen; omega) ha hb
  generalize ptL s n = X at *
  go_enter Try.func3, Try.ntmps3
  go_wp2_with fail
  refine (cP _).mono ?_
  rintro e w1 ⟨v1, rfl, ho1, hb1⟩
  obtain ⟨ao, cp, rfl, hao⟩ := own_shape ho1
  go_wp2_with fail
  refine (cR _).mono ?_
  rintro e w2 ⟨v2, rfl, ho2, hb2⟩
  have ho1' := own_below ho1 hb2
  clear cR
  go_wp2_with fail
  refine (cS _ _ _ (readsI_of hX ho1') (readsI_of hX ho2)).mono ?_
  rintro e w3 ⟨rfl, hb3⟩
  have k1 := own_below ho1' hb3
  have k2 := own_below ho2 hb3
  have kb := chain (chain hb1 hb2) hb3
  have hz1 := hb1.size
  clear ho1 ho1' ho2
  go_wp2
  go_loopw [7] (fun i wr => ∃ (j : Nat) (ys : List Value), j ≤ n ∧ i = .int .i64 (j : Int) ∧ wr.ownsRow w.heap.size 3 1 (.slice ao n cp) n ys ∧ wr.ownsRow w1.heap.size 3 1 v2 n (iv X) ∧ Below w.heap.size w wr) (fun i _ => n - (intOf i).toNat)
  case atStart => exact ⟨0, _, by omega, rfl, k1, k2, kb⟩
  case round =>
    obtain ⟨j, ys, hj, rfl, hown, hown2, hbl⟩ := hrel
    clear k1 k2
    by_cases hlt : j < n
    · obtain ⟨g, rfl, hg⟩ := hao (by omega)
      obtain ⟨y, c1⟩ := own_cell hown hlt
      have c2 := hown.frozenAt j
      have R1 := (hown.stored j (.int .i64 (-1))).1
      have R2 := ownsRow_setCell_below hown2 (a := ⟨g, j, none⟩) hg (.int .i64 (-1))
      have R3 : Below w.heap.size w (wr.setCell ⟨g, j, none⟩ (.int .i64 (-1))) := hbl.setCell (by have := (hown.lt g rfl).1; simp; omega) _
      clear hown hown2 cP cL cM cS
      go_wp2
      go_roundw
      case rel => exact ⟨j + 1, _, by omega, by go_num, R1, R2, R3⟩
      case measure => simp [intOf]; omega
    · go_wp2_with fail
      refine (cP _).mono ?_
      rintro e w4 ⟨v4, rfl, ho4, hb4⟩
      clear cP
      go_wp2_with fail
      refine (cS _ _ _ (readsI_of hX ho4) (readsI_of hX (own_below hown2 hb4))).mono ?_
      rintro e w5 ⟨rfl, hb5⟩
      clear cS
      go_wp2_with (first | (go_at_call 12; refine (cL _).mono ?_; rintro e w6 ⟨rfl, rfl⟩) | (go_at_call 13; refine (cM _).mono ?_; rintro e w7 ⟨rfl, hb7⟩) | (go_at_call 14; refine (live_any _).mono ?_; rintro e w8 ⟨rfl, hb8⟩))
      go_ret
      exact ⟨rfl, chain (chain (chain (chain hbl hb4) hb5) hb7) hb8⟩

theorem walk (s : ByteArray) (w : World) (_ : s.size ≤ maxLen) (hs : s.size ≤ 1048576) :
    Calls Try.prog 3 #[.string s] w fun e w' => e = .returned (.bool true) ∧ Below w.heap.size w w' := by
  rcases valid_or_bad s with ⟨n, hv⟩ | ⟨k, hb⟩
  · exact walk_ok s w n hs hv
  · exact walk_bad s w k hs hb

theorem own : ownKnob Try.prog.godebug = none := by kernel_rfl
theorem laidOut : laidOutB Try.prog = true := by kernel_rfl

theorem contract (H : Type) (enc : TypeId × Value → H) (W : World) (base : Nat) (args : Array Value) (ds gs : List (DataW H)) (before : List MemPlace)
    (hval : ∀ (j : Nat) t v, Try.f3.params[j]? = some t → args[j]? = some v → Value.okWide Try.prog W .any base t v)
    (hW : DataW.Whole enc Try.prog Try.f3.params.toList Rows.textPointsSpec.vars false W args.toList ds gs before) (hk : Rows.uptoSmall H (ds ++ gs) = true) :
    Calls Try.prog 3 args W fun e W' => ∃ v, e = .returned v ∧ Rows.textPointsSpec.post enc Try.prog Try.f3 false true false false W args v W' := by
  have hW' := hW
  obtain ⟨p, q, hA0, hV, rfl, hfz, hnd⟩ := hW
  have hA : DataW.TrodAll enc Try.prog W 0 (fun _ => true) true Try.f3.params.toList args.toList ds p := hA0
  rw [Try.params3] at hA hval
  obtain ⟨v0, vs0, d0, ds0, p0, q0, hargs, rfl, rfl, h0, r0⟩ := trodAll_cons hA
  obtain ⟨rfl, rfl, rfl⟩ := trodAll_nil r0
  obtain rfl : args = #[v0] := by cases args; simp_all
  obtain ⟨rfl, rfl⟩ := trodVars_none hV
  have k0 := h0
  have lt0 : ∀ x ∈ p0, x.block < W.heap.size := by obtain ⟨m, hm⟩ := k0; exact DataW.trod_lt m _ _ _ hm
  obtain ⟨a0, rfl, rfl, rfl, w0⟩ := open_string Try.underlying9 (hval 0 9 v0 rfl rfl) h0
  clear hA0
  simp only [List.append_nil] at hW' hk
  refine (walk a0 W w0 (small hk)).mono fun e W' ⟨he, bel⟩ => ?_
  subst he
  exact ⟨_, rfl, _, _, _, [], _, [], hW', trodAll_mk1 (shut_bool Try.underlying4 _), (trodAll_cons_mk (Below.trod laidOut (by kernel_rfl) (of_decide_eq_true (by kernel_rfl)) k0 bel lt0) trodAll_mk0), rfl, bel.frame _, fun h => by cases h⟩

set_option maxRecDepth 100000 in
theorem lifted (os : Os) (started : os.Started) (H : Type) (enc : TypeId × Value → H) (F : Stop.Interp) :
    ReturnsInHanded {} Try.checked os 3 .any ((Rows.OpenSpec.upto Rows.textPointsSpec).pre6 enc Try.prog Try.f3 Rows.textPointsUptoRow.domain false) (((Rows.OpenSpec.upto Rows.textPointsSpec).at F).post enc Try.prog Try.f3 false true false false) := by
  refine returnsInHanded_of_cond (C := Try.checked) (s := Rows.OpenSpec.upto Rows.textPointsSpec) (k := Rows.uptoSmall) rfl own started (by kernel_rfl) Try.func3
    (OpenSpec.witness (enc := enc) (C := Try.checked) (s := Rows.OpenSpec.upto Rows.textPointsSpec) (k := Rows.uptoSmall) rfl false ⟨#[], #[.string .empty], []⟩ 8 (by kernel_rfl) (by kernel_rfl) (by kernel_rfl)
      (x := ([.lit (.string [])], [], [])) (by kernel_rfl) rfl (by kernel_rfl)) ?_
  intro W base args ds gs before hval hW _ hk _
  exact contract H enc W base args ds gs before hval hW hk

theorem holds : Rows.TextPointsUptoSaid :=
  OpenClaim.holds_of_cond 3 Try.f3 rfl rfl rfl rfl rfl rfl rfl ⟨rfl, rfl, rfl, rfl, rfl⟩ rfl rfl rfl rfl rfl (by kernel_rfl) Try.func3 (by kernel_rfl)
    (of_decide_eq_true (by kernel_rfl)) (by unfold Func.isWrapper; first | (rw [if_pos (by decide +kernel)]; kernel_rfl) | (rw [if_neg (by decide +kernel)]; exact ⟨rfl, rfl⟩))
    (fun os started H enc _ F => lifted os started H enc F)
end Go.Proofs.Ythkkdbcflfhmaaa.textPoints
namespace Go.Proofs.Ythkkdbcflfhmaaa
theorem textPoints_holds : Rows.TextPointsUptoSaid := textPoints.holds
#print axioms textPoints_holds
end Go.Proofs.Ythkkdbcflfhmaaa
