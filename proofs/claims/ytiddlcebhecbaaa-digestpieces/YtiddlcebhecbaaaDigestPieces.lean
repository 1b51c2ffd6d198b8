/-
  Proved: bytes cut anywhere have the digest that one gets piece by piece (the law DigestPieces), for every input.
-/
import Derived.Test.YtiddlcebhecbaaaDigB
import Derived.Laws.DeepStrings4
namespace Go.Proofs.Ytiddlcebhecbaaa.digestPieces
open Go.RowKit Go.ChangeShapes Go.WideShapes Go.ChangeAt Go.PlainAid
open Go.ChangeMaps (open_string shut_string)

theorem slice_ok {P : Program} {t : TypeId} (ht : P.underlying t = some .string) (s : ByteArray) (p q : Nat) (W : World) (h : p ≤ q) (h2 : q ≤ s.size) :
    (Instr.slice t (.string s) (some (.int .i64 (p : Int))) (some (.int .i64 (q : Int))) none).run P W = .ok (.string (s.extract p q)) W := by
  rw [run_slice_string_if (P := P) (w := W) t s .i64 .i64 (p : Int) (q : Int) ht, if_pos (by omega), if_pos (by omega)]
  rfl

theorem ext_piece (s : ByteArray) (p q : Nat) (h : p ≤ q) : ext (ext 2166136261 (s.data.toList.take p)) (s.extract p q).data.toList = ext 2166136261 (s.data.toList.take q) := by
  rw [← ext_append]
  congr 1
  rw [ByteArray.data_extract, Array.toList_extract, List.extract_eq_take_drop]
  have e := List.take_append_drop p (s.data.toList.take q)
  rw [List.take_take, Nat.min_eq_left h, List.drop_take] at e
  exact e

set_option maxHeartbeats 1000000 in
theorem walk (s : ByteArray) (v : Value) (l : List Int) (w : World) (hs : s.size ≤ maxLen) (hv : RdI w v l) (hll : l.length ≤ maxLen ∧ ∀ c ∈ l, -9223372036854775808 ≤ c ∧ c ≤ 9223372036854775807) :
    Calls Try.prog 4 #[.string s, v] w fun e w' => e = .returned (.bool true) ∧ Below w.heap.size w w' := by
  obtain ⟨ao, cp, rfl, hop⟩ := hv
  have hl := hll.1
  clear hll
  unfold maxLen at hl
  have hs' := hs
  unfold maxLen at hs'
  have c0 : Calls Try.prog 8 #[.string ⟨#[]⟩] w fun e w' => e = .returned (.int .u32 (ext 2166136261 (s.data.toList.take 0) : Nat)) ∧ w' = w := sum_any ⟨#[]⟩ w (by decide)
  go_enter Try.func4, Try.ntmps4
  go_wp2_with fail
  refine c0.mono ?_
  rintro e w' ⟨rfl, hw⟩
  rw [hw]
  clear hw w' c0
  go_wp2_with fail
  go_loopw [5, 6, 7] (fun m f i wr => ∃ k p : Nat, k ≤ l.length ∧ p ≤ s.size ∧ i = .int .i64 (k : Int) ∧ f = .int .i64 (p : Int) ∧ m = .int .u32 (ext 2166136261 (s.data.toList.take p) : Nat) ∧ wr = w) (fun _ _ i _ => l.length - (intOf i).toNat)
  case atStart => exact ⟨0, 0, Nat.zero_le _, Nat.zero_le _, rfl, rfl, rfl, rfl⟩
  case round =>
    obtain ⟨k, p, hk, hp, rfl, rfl, rfl, rfl⟩ := hrel
    have hm := ext_lt (show 2166136261 < 4294967296 by decide) (s.data.toList.take p)
    by_cases hlt : k < l.length
    · have hlt' : (k : Int) < (l.length : Int) := by omega
      obtain ⟨b, off, rfl, hbl, e0⟩ := hop k l[k] (by simp [hlt])
      clear hop
      generalize l[k] = c at *
      by_cases h1 : (p : Int) < c
      · by_cases h2 : c ≤ (s.size : Int)
        · obtain ⟨q, rfl⟩ := Int.eq_ofNat_of_zero_le (show 0 ≤ c by omega)
          have hq1 : p ≤ q := by omega
          have hq2 : q ≤ s.size := by omega
          have hsl : ∀ W : World, (Instr.slice 9 (.string s) (some (.int .i64 (p : Int))) (some (.int .i64 (q : Int))) none).run Try.prog W = .ok (.string (s.extract p q)) W := fun W => slice_ok Try.underlying9 s p q W hq1 hq2
          have cE := extend_any (ext 2166136261 (s.data.toList.take p)) (s.extract p q) wr hm (by rw [ByteArray.size_extract]; unfold maxLen; omega)
          rw [ext_piece s p q hq1] at cE
          clear hm
          generalize s.extract p q = T at *
          generalize ext 2166136261 (s.data.toList.take p) = m at *
          go_wp2_with fail
          refine cE.mono ?_
          rintro e w' ⟨rfl, hw⟩
          rw [hw]
          clear hw w' cE hsl
          go_wp2_with fail
          go_roundw
          case rel => exact ⟨k + 1, q, by omega, hq2, by go_num, rfl, rfl, trivial⟩
          case measure => simp [intOf]; omega
        · clear hm
          go_wp2_with fail
          go_roundw
          case rel => exact ⟨k + 1, p, by omega, hp, by go_num, rfl, rfl, trivial⟩
          case measure => simp [intOf]; omega
      · clear hm
        go_wp2_with fail
        go_roundw
        case rel => exact ⟨k + 1, p, by omega, hp, by go_num, rfl, rfl, trivial⟩
        case measure => simp [intOf]; omega
    · obtain rfl : k = l.length := by omega
      have hlt' : ¬ (l.length : Int) < (l.length : Int) := by omega
      have hsl : ∀ W : World, (Instr.slice 9 (.string s) (some (.int .i64 (p : Int))) none none).run Try.prog W = .ok (.string (s.extract p s.size)) W := fun W => by
        have h := run_slice_string_l (P := Try.prog) (w := W) (t := 9) (s := s) Try.underlying9 .i64 (p : Int) (by omega) (by omega)
        rw [Int.toNat_natCast] at h
        exact h
      have cE : ∀ W, Calls Try.prog 10 #[.int .u32 (ext 2166136261 (s.data.toList.take p) : Nat), .string (s.extract p s.size)] W fun e w' => e = .returned (.int .u32 (ext 2166136261 s.data.toList : Nat)) ∧ w' = W := fun W => by
        have c := extend_any (ext 2166136261 (s.data.toList.take p)) (s.extract p s.size) W hm (by rw [ByteArray.size_extract]; unfold maxLen; omega)
        rw [ext_piece s p s.size hp, show s.data.toList.take s.size = s.data.toList from List.take_of_length_le (by rw [Array.length_toList]; exact Nat.le_refl _)] at c
        exact c
      have cS := fun W => sum_any s W hs
      clear hm hop
      generalize s.extract p s.size = T at *
      generalize ext 2166136261 (s.data.toList.take p) = m at *
      generalize ext 2166136261 s.data.toList = z at *
      go_wp2_with fail
      refine (live_any wr).mono ?_
      rintro e w1 ⟨rfl, hb1⟩
      go_wp2_with fail
      refine (cE w1).mono ?_
      rintro e w' ⟨rfl, hw⟩
      rw [hw]
      clear hw w' cE hsl
      go_wp2_with fail
      refine (cS w1).mono ?_
      rintro e w' ⟨rfl, hw⟩
      rw [hw]
      clear hw w' cS
      go_wp2
      go_ret
      exact ⟨rfl, hb1⟩

theorem own : ownKnob Try.prog.godebug = none := by kernel_rfl
theorem laidOut : laidOutB Try.prog = true := by kernel_rfl

set_option maxRecDepth 20000 in
theorem contract (H : Type) (enc : TypeId × Value → H) (W : World) (base : Nat) (args : Array Value) (ds gs : List (DataW H)) (before : List MemPlace)
    (hval : ∀ (j : Nat) t v, Try.f4.params[j]? = some t → args[j]? = some v → Value.okWide Try.prog W .any base t v)
    (hW : DataW.Whole enc Try.prog Try.f4.params.toList Rows.digestPiecesSpec.vars false W args.toList ds gs before) :
    Calls Try.prog 4 args W fun e W' => ∃ v, e = .returned v ∧ Rows.digestPiecesSpec.post enc Try.prog Try.f4 false true false false W args v W' := by
  have hW' := hW
  obtain ⟨p, q, hA0, hV, rfl, hfz, hnd⟩ := hW
  have hA : DataW.TrodAll enc Try.prog W 0 (fun _ => true) true Try.f4.params.toList args.toList ds p := hA0
  rw [Try.params4] at hA hval
  obtain ⟨v0, vs0, d0, ds0, p0, q0, hargs, rfl, rfl, h0, r0⟩ := trodAll_cons hA
  obtain ⟨v1, vs1, d1, ds1, p1, q1, rfl, rfl, rfl, h1, r1⟩ := trodAll_cons r0
  obtain ⟨rfl, rfl, rfl⟩ := trodAll_nil r1
  obtain rfl : args = #[v0, v1] := by cases args; simp_all
  obtain ⟨rfl, rfl⟩ := trodVars_none hV
  have k0 := h0
  have lt0 : ∀ x ∈ p0, x.block < W.heap.size := by obtain ⟨m, hm⟩ := k0; exact DataW.trod_lt m _ _ _ hm
  have k1 := h1
  have lt1 : ∀ x ∈ p1, x.block < W.heap.size := by obtain ⟨m, hm⟩ := k1; exact DataW.trod_lt m _ _ _ hm
  obtain ⟨a0, rfl, rfl, rfl, w0⟩ := open_string Try.underlying9 (hval 0 9 v0 rfl rfl) h0
  obtain ⟨a1, len1, cap1, rfl⟩ := okWide_slice Try.underlying28 (hval 1 28 v1 rfl rfl)
  obtain ⟨fuel1, hf1⟩ := h1
  obtain ⟨l1, rd1, bd1⟩ := open_ints (v := .slice a1 len1 cap1) hf1
  clear hA0
  simp only [List.append_nil] at hW'
  refine (walk a0 (.slice a1 len1 cap1) l1 W w0 rd1 bd1).mono fun e W' ⟨he, bel⟩ => ?_
  subst he
  exact ⟨_, rfl, _, _, _, [], _, [], hW', trodAll_mk1 (shut_bool Try.underlying4 _), (trodAll_cons_mk (Below.trod laidOut (by kernel_rfl) (of_decide_eq_true (by kernel_rfl)) k0 bel lt0) (trodAll_cons_mk (Below.trod laidOut (by kernel_rfl) (of_decide_eq_true (by kernel_rfl)) k1 bel lt1) trodAll_mk0)), rfl, bel.frame _, fun h => by cases h⟩

set_option maxRecDepth 100000 in
theorem lifted (os : Os) (started : os.Started) (H : Type) (enc : TypeId × Value → H) :
    ReturnsInHanded {} Try.checked os 4 .any (Rows.digestPiecesSpec.pre6 enc Try.prog Try.f4 Rows.digestPiecesRow.domain false) (Rows.digestPiecesSpec.post enc Try.prog Try.f4 false true false false) := by
  refine returnsInHanded_of_change (C := Try.checked) own started (by kernel_rfl) Try.func4
    (ChangeSpec.witness6 (enc := enc) (C := Try.checked) false ⟨#[], #[.string .empty, .slice none 0 0], []⟩ 8 (by kernel_rfl) (by kernel_rfl) (by kernel_rfl) (by kernel_rfl)) ?_
  intro W base args ds gs before hval hW _ _
  exact contract H enc W base args ds gs before hval hW

theorem holds : Rows.DigestPiecesSaid :=
  OpenClaim.holds_of_wide 4 Try.f4 rfl rfl rfl rfl rfl rfl rfl ⟨rfl, rfl, rfl, rfl, rfl⟩ rfl rfl rfl rfl rfl (by kernel_rfl) Try.func4 (by kernel_rfl)
    (of_decide_eq_true (by kernel_rfl)) (by unfold Func.isWrapper; first | (rw [if_pos (by decide +kernel)]; kernel_rfl) | (rw [if_neg (by decide +kernel)]; exact ⟨rfl, rfl⟩))
    (fun os started H enc _ => lifted os started H enc)
end Go.Proofs.Ytiddlcebhecbaaa.digestPieces
namespace Go.Proofs.Ytiddlcebhecbaaa
theorem digestPieces_holds : Rows.DigestPiecesSaid := digestPieces.holds
#print axioms digestPieces_holds
end Go.Proofs.Ytiddlcebhecbaaa
