/-
  Proved: any part of any text, or why there is none, is what the reference gives (the law TextCuts), where what comes in is of bulk at most 1048576.
-/
import Derived.Test.YthkkdbcflfhmaaaTextPoints
namespace Go.Proofs.Ythkkdbcflfhmaaa.textCuts
open Go.ChangeShapes Go.WideShapes Go.ChangeAt Go.RowKit Go.PlainAid
open Go.ChangeMaps (open_string shut_string)
open textPoints (own_shape readsI_of)

theorem small {H : Type} {s : ByteArray} {d e : DataW H} (hk : Rows.uptoSmall H [.lit (.string s.data.toList), d, e] = true) : s.size ≤ 1048576 := by
  have h : Rows.uptoBulkAll [DataW.lit (H := H) (.string s.data.toList), d, e] ≤ 1048576 := of_decide_eq_true hk
  simp only [Rows.uptoBulkAll, Rows.uptoBulk] at h
  rw [data_len] at h
  omega

theorem refCut_bad (s : ByteArray) (f t : Int) (k : Nat) (w : World) (hs : s.size ≤ 1048576) (hb : Bad s k) :
    Calls Try.prog 18 #[.string s, .int .i64 f, .int .i64 t] w fun e w' => e = .returned (.tuple #[.string ⟨#[]⟩, .int .i64 10]) ∧ Below w.heap.size w w' := by
  have cR := refPoints_bad s k w hs hb
  go_enter Try.func18, Try.ntmps18
  go_wp2_with (go_at_call 10; refine cR.mono ?_; rintro e w1 ⟨rfl, hb1⟩)
  go_ret2
  exact ⟨rfl, hb1⟩

set_option maxHeartbeats 1000000 in
theorem refCut_arg (s : ByteArray) (f t : Int) (n : Nat) (w : World) (hs : s.size ≤ 1048576) (hv : Valid s n) (ha : f < 0 ∨ t < f ∨ (n : Int) < t) :
    Calls Try.prog 18 #[.string s, .int .i64 f, .int .i64 t] w fun e w' => e = .returned (.tuple #[.string ⟨#[]⟩, .int .i64 1]) ∧ Below w.heap.size w w' := by
  have cR := refPoints_ok s n w hs hv
  by_cases c1 : f < 0
  · clear ha
    go_enter Try.func18, Try.ntmps18
    go_wp2_with (go_at_call 10; refine cR.mono ?_; rintro e w1 ⟨v, rfl, ho, hb1⟩; obtain ⟨ao, cp, rfl, _⟩ := own_shape ho)
    go_ret2
    exact ⟨rfl, hb1⟩
  · by_cases c2 : t < f
    · clear ha
      go_enter Try.func18, Try.ntmps18
      go_wp2_with (go_at_call 10; refine cR.mono ?_; rintro e w1 ⟨v, rfl, ho, hb1⟩; obtain ⟨ao, cp, rfl, _⟩ := own_shape ho)
      go_ret2
      exact ⟨rfl, hb1⟩
    · have c3 : (n : Int) < t := by omega
      clear ha
      go_enter Try.func18, Try.ntmps18
      go_wp2_with (go_at_call 10; refine cR.mono ?_; rintro e w1 ⟨v, rfl, ho, hb1⟩; obtain ⟨ao, cp, rfl, _⟩ := own_shape ho)
      go_ret2
      exact ⟨rfl, hb1⟩

set_option maxHeartbeats 2000000 in
theorem refCut_ok (s : ByteArray) (f m n : Nat) (w : World) (hs : s.size ≤ 1048576) (hv : Valid s n) (hm : f + m ≤ n) :
    Calls Try.prog 18 #[.string s, .int .i64 (f : Int), .int .i64 ((f : Int) + (m : Int))] w fun e w' => e = .returned (.tuple #[.string (mk (enc (ptM s f m))), .int .i64 0]) ∧ Below w.heap.size w w' := by
  have hpn := pos_le hv.1 n (Nat.le_refl _)
  have hn : n ≤ 1048576 := by omega
  have cR := refPoints_ok s n w hs hv
  obtain ⟨_, _, hok⟩ := at_ptM (s := s) (f := f) m (ok_mono hv.1 hm)
  have hlen := ptM_length s f m
  have cT : ∀ v W, ReadsI W v (ptM s f m) → Calls Try.prog 16 #[v] W fun e w' => e = .returned (.tuple #[.string (mk (enc (ptM s f m))), .bool true]) ∧ Below W.heap.size W w' := fun v W h => by
    have := refText_any v (ptM s f m) W (by omega) h
    rw [textR, if_pos hok] at this
    exact this
  clear hok
  go_enter Try.func18, Try.ntmps18
  go_wp2_with fail
  refine cR.mono ?_
  rintro e w1 ⟨v1, rfl, ho1, hb1⟩
  clear cR
  have ho1' := ho1
  rcases ho1.2 with ⟨rfl, h0⟩ | ⟨g, cap, cur, rfl, h3, h4, h5, h6, h7, h8⟩
  · obtain rfl : f = 0 := by omega
    obtain rfl : m = 0 := by omega
    have hr : ReadsI w1 (.slice none 0 0) (ptM s 0 0) := .inl ⟨rfl, _, _, rfl⟩
    subst h0
    clear ho1 ho1'
    go_wp2_with (go_at_call 16; refine (cT _ _ hr).mono ?_; rintro e w2 ⟨rfl, hb2⟩)
    go_ret2
    exact ⟨rfl, chain hb1 hb2⟩
  · clear h8 h3 h4 h7 ho1
    by_cases hcf : f = cap
    · obtain rfl : m = 0 := by omega
      have hr : ∀ ao cp, ReadsI w1 (.slice ao 0 cp) (ptM s f 0) := fun ao cp => .inl ⟨rfl, _, _, rfl⟩
      have hfn : f ≤ n := by omega
      subst hcf
      clear ho1'
      go_wp2_with (go_at_call 16; refine (cT _ _ (hr _ _)).mono ?_; rintro e w2 ⟨rfl, hb2⟩)
      go_ret2
      exact ⟨rfl, chain hb1 hb2⟩
    · have hr : ReadsI w1 (.slice (some ⟨g, f, none⟩) m (cap - f)) (ptM s f m) := by
        refine .inr ⟨g, f, cap - f, by rw [hlen], fun i hi => ?_⟩
        rw [hlen] at hi
        have hadd : (⟨g, 0, none⟩ : Addr).add (f + i) = ⟨g, f + i, none⟩ := by unfold Addr.add; split <;> simp_all
        have h := ho1'.cells (g := g) rfl (f + i) (.int .i64 (pt s (f + i))) (by simp [iv, ptL, show f + i < n by omega])
        rw [hadd] at h
        rw [h]
        simp [ptM, hi]
      have hlt : f < cap := by omega
      clear ho1' hcf
      go_wp2_with (go_at_call 16; refine (cT _ _ hr).mono ?_; rintro e w2 ⟨rfl, hb2⟩)
      go_ret2
      exact ⟨rfl, chain hb1 hb2⟩

theorem cutFacts (s : ByteArray) (f t : Int) (hs : s.size ≤ 1048576) : ∃ (F : ByteArray) (er : Int),
    (∀ W, Calls Try.prog 17 #[.string s, .int .i64 f, .int .i64 t] W fun e w' => e = .returned (.tuple #[.string F, .int .i64 er]) ∧ Below W.heap.size W w') ∧
    (∀ W, Calls Try.prog 18 #[.string s, .int .i64 f, .int .i64 t] W fun e w' => e = .returned (.tuple #[.string F, .int .i64 er]) ∧ Below W.heap.size W w') := by
  have hs' : s.size ≤ maxLen := by unfold maxLen; omega
  rcases valid_or_bad s with ⟨n, hv⟩ | ⟨k, hb⟩
  · by_cases ha : f < 0 ∨ t < f ∨ (n : Int) < t
    · exact ⟨_, _, fun W => (cut_arg s f t n W hs' hv ha).mono (fun _ _ h => ⟨h.1, by rw [← h.2]; exact Below.refl _ _⟩), fun W => refCut_arg s f t n W hs hv ha⟩
    · obtain ⟨f', rfl⟩ := Int.eq_ofNat_of_zero_le (show 0 ≤ f by omega)
      obtain ⟨m, hm⟩ := Int.eq_ofNat_of_zero_le (show 0 ≤ t - (f' : Int) by omega)
      obtain rfl : t = (f' : Int) + (m : Int) := by omega
      have hle : f' + m ≤ n := by omega
      refine ⟨_, _, fun W => ?_, fun W => refCut_ok s f' m n W hs hv hle⟩
      have := cut_ok s f' m n W (by omega) hv hle
      rw [part_eq hv hle] at this
      exact this
  · exact ⟨_, _, fun W => (cut_bad s f t k W hs' hb).mono (fun _ _ h => ⟨h.1, by rw [← h.2]; exact Below.refl _ _⟩), fun W => refCut_bad s f t k W hs hb⟩

theorem walk (s : ByteArray) (f t : Int) (w : World) (_ : s.size ≤ maxLen) (_ : (Lit.int .i64 f).wf = true) (_ : (Lit.int .i64 t).wf = true) (hs : s.size ≤ 1048576) :
    Calls Try.prog 5 #[.string s, .int .i64 f, .int .i64 t] w fun e w' => e = .returned (.bool true) ∧ Below w.heap.size w w' := by
  obtain ⟨F, er, c1, c2⟩ := cutFacts s f t hs
  go_enter Try.func5, Try.ntmps5
  go_wp2_with (first | (go_at_call 17; refine (c1 _).mono ?_; rintro e w1 ⟨rfl, hb1⟩; clear c1) | (go_at_call 18; refine (c2 _).mono ?_; rintro e w2 ⟨rfl, hb2⟩; clear c2) | (go_at_call 14; refine (live_any _).mono ?_; rintro e w3 ⟨rfl, hb3⟩))
  go_ret
  exact ⟨rfl, chain (chain hb1 hb2) hb3⟩

theorem own : ownKnob Try.prog.godebug = none := by kernel_rfl
theorem laidOut : laidOutB Try.prog = true := by kernel_rfl

theorem contract (H : Type) (enc : TypeId × Value → H) (W : World) (base : Nat) (args : Array Value) (ds gs : List (DataW H)) (before : List MemPlace)
    (hval : ∀ (j : Nat) t v, Try.f5.params[j]? = some t → args[j]? = some v → Value.okWide Try.prog W .any base t v)
    (hW : DataW.Whole enc Try.prog Try.f5.params.toList Rows.textCutsSpec.vars false W args.toList ds gs before) (hk : Rows.uptoSmall H (ds ++ gs) = true) :
    Calls Try.prog 5 args W fun e W' => ∃ v, e = .returned v ∧ Rows.textCutsSpec.post enc Try.prog Try.f5 false true false false W args v W' := by
  have hW' := hW
  obtain ⟨p, q, hA0, hV, rfl, hfz, hnd⟩ := hW
  have hA : DataW.TrodAll enc Try.prog W 0 (fun _ => true) true Try.f5.params.toList args.toList ds p := hA0
  rw [Try.params5] at hA hval
  obtain ⟨v0, vs0, d0, ds0, p0, q0, hargs, rfl, rfl, h0, r0⟩ := trodAll_cons hA
  obtain ⟨v1, vs1, d1, ds1, p1, q1, rfl, rfl, rfl, h1, r1⟩ := trodAll_cons r0
  obtain ⟨v2, vs2, d2, ds2, p2, q2, rfl, rfl, rfl, h2, r2⟩ := trodAll_cons r1
  obtain ⟨rfl, rfl, rfl⟩ := trodAll_nil r2
  obtain rfl : args = #[v0, v1, v2] := by cases args; simp_all
  obtain ⟨rfl, rfl⟩ := trodVars_none hV
  have k0 := h0
  have lt0 : ∀ x ∈ p0, x.block < W.heap.size := by obtain ⟨m, hm⟩ := k0; exact DataW.trod_lt m _ _ _ hm
  have k1 := h1
  have lt1 : ∀ x ∈ p1, x.block < W.heap.size := by obtain ⟨m, hm⟩ := k1; exact DataW.trod_lt m _ _ _ hm
  have k2 := h2
  have lt2 : ∀ x ∈ p2, x.block < W.heap.size := by obtain ⟨m, hm⟩ := k2; exact DataW.trod_lt m _ _ _ hm
  obtain ⟨a0, rfl, rfl, rfl, w0⟩ := open_string Try.underlying9 (hval 0 9 v0 rfl rfl) h0
  obtain ⟨a1, rfl, rfl, rfl, w1⟩ := open_int Try.underlying3 (hval 1 3 v1 rfl rfl) h1
  obtain ⟨a2, rfl, rfl, rfl, w2⟩ := open_int Try.underlying3 (hval 2 3 v2 rfl rfl) h2
  clear hA0
  simp only [List.append_nil] at hW' hk
  refine (walk a0 a1 a2 W w0 w1 w2 (small hk)).mono fun e W' ⟨he, bel⟩ => ?_
  subst he
  exact ⟨_, rfl, _, _, _, [], _, [], hW', trodAll_mk1 (shut_bool Try.underlying4 _), (trodAll_cons_mk (Below.trod laidOut (by kernel_rfl) (of_decide_eq_true (by kernel_rfl)) k0 bel lt0) (trodAll_cons_mk (Below.trod laidOut (by kernel_rfl) (of_decide_eq_true (by kernel_rfl)) k1 bel lt1) (trodAll_cons_mk (Below.trod laidOut (by kernel_rfl) (of_decide_eq_true (by kernel_rfl)) k2 bel lt2) trodAll_mk0))), rfl, bel.frame _, fun h => by cases h⟩

set_option maxRecDepth 100000 in
theorem lifted (os : Os) (started : os.Started) (H : Type) (enc : TypeId × Value → H) (F : Stop.Interp) :
    ReturnsInHanded {} Try.checked os 5 .any ((Rows.OpenSpec.upto Rows.textCutsSpec).pre6 enc Try.prog Try.f5 Rows.textCutsUptoRow.domain false) (((Rows.OpenSpec.upto Rows.textCutsSpec).at F).post enc Try.prog Try.f5 false true false false) := by
  refine returnsInHanded_of_cond (C := Try.checked) (s := Rows.OpenSpec.upto Rows.textCutsSpec) (k := Rows.uptoSmall) rfl own started (by kernel_rfl) Try.func5
    (OpenSpec.witness (enc := enc) (C := Try.checked) (s := Rows.OpenSpec.upto Rows.textCutsSpec) (k := Rows.uptoSmall) rfl false ⟨#[], #[.string .empty, .int .i64 0, .int .i64 0], []⟩ 8 (by kernel_rfl) (by kernel_rfl) (by kernel_rfl)
      (x := ([.lit (.string []), .lit (.int .i64 0), .lit (.int .i64 0)], [], [])) (by kernel_rfl) rfl (by kernel_rfl)) ?_
  intro W base args ds gs before hval hW _ hk _
  exact contract H enc W base args ds gs before hval hW hk

theorem holds : Rows.TextCutsUptoSaid :=
  OpenClaim.holds_of_cond 5 Try.f5 rfl rfl rfl rfl rfl rfl rfl ⟨rfl, rfl, rfl, rfl, rfl⟩ rfl rfl rfl rfl rfl (by kernel_rfl) Try.func5 (by kernel_rfl)
    (of_decide_eq_true (by kernel_rfl)) (by unfold Func.isWrapper; first | (rw [if_pos (by decide +kernel)]; kernel_rfl) | (rw [if_neg (by decide +kernel)]; exact ⟨rfl, rfl⟩))
    (fun os started H enc _ F => lifted os started H enc F)
end Go.Proofs.Ythkkdbcflfhmaaa.textCuts
namespace Go.Proofs.Ythkkdbcflfhmaaa
theorem textCuts_holds : Rows.TextCutsUptoSaid := textCuts.holds
#print axioms textCuts_holds
end Go.Proofs.Ythkkdbcflfhmaaa
