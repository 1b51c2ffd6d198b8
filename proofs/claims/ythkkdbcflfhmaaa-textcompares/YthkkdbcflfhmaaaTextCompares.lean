/-
  Proved: how any two texts stand, both ways, is what the reference tells (the law TextCompares), for every input.
-/
import Derived.Test.YthkkdbcflfhmaaaLive
import Derived.ShutString
import Derived.ChangeOld
import Derived.SizedLaws
namespace Go.Proofs.Ythkkdbcflfhmaaa.textCompares
open Go.ChangeShapes Go.WideShapes Go.ChangeAt Go.RowKit Go.PlainAid
open Go.ChangeMaps (open_string shut_string)

theorem cmp_step (x y : UInt8) (a b : List UInt8) (h : x = y) : Lib.compareBytes (x :: a) (y :: b) = Lib.compareBytes a b := by
  subst h
  simp [Lib.compareBytes]
theorem cmp_prefix : ∀ (k : Nat) (a b : List UInt8), (∀ j, j < k → a[j]? = b[j]?) → k ≤ a.length → k ≤ b.length → Lib.compareBytes a b = Lib.compareBytes (a.drop k) (b.drop k)
  | 0, a, b, _, _, _ => by simp
  | k + 1, [], _, _, h, _ => by simp at h
  | k + 1, _ :: _, [], _, _, h => by simp at h
  | k + 1, x :: a, y :: b, hj, ha, hb => by
    have h0 := hj 0 (by omega)
    simp at h0
    rw [cmp_step x y a b h0, List.drop_succ_cons, List.drop_succ_cons]
    exact cmp_prefix k a b (fun j h => by simpa using hj (j + 1) (by omega)) (by simpa using ha) (by simpa using hb)

theorem cmp_neg : ∀ (a b : List UInt8), Lib.compareBytes b a = - Lib.compareBytes a b
  | [], [] => by simp [Lib.compareBytes]
  | [], _ :: _ => by simp [Lib.compareBytes]
  | _ :: _, [] => by simp [Lib.compareBytes]
  | x :: a, y :: b => by
    have ih := cmp_neg a b
    simp only [Lib.compareBytes]
    have h1 : ¬ (x < y ∧ y < x) := by rw [UInt8.lt_iff_toNat_lt, UInt8.lt_iff_toNat_lt]; omega
    by_cases c1 : x < y
    · rw [if_pos c1, if_neg (fun h => h1 ⟨c1, h⟩), if_pos c1]; rfl
    · by_cases c2 : y < x
      · rw [if_pos c2, if_neg c1, if_pos c2]
      · rw [if_neg c2, if_neg c1, if_neg c1, if_neg c2]; exact ih

theorem cmp_range : ∀ (a b : List UInt8), Lib.compareBytes a b = -1 ∨ Lib.compareBytes a b = 0 ∨ Lib.compareBytes a b = 1
  | [], [] => by simp [Lib.compareBytes]
  | [], _ :: _ => by simp [Lib.compareBytes]
  | _ :: _, [] => by simp [Lib.compareBytes]
  | x :: a, y :: b => by
    simp only [Lib.compareBytes]
    split
    · simp
    · split
      · simp
      · exact cmp_range a b

theorem drop_at (s : ByteArray) (k : Nat) (h : k < s.size) : ∃ (x : UInt8) (r : List UInt8), s.data.toList.drop k = x :: r ∧ bt s k = (x.toNat : Int) ∧ s.data.toList[k]? = some x := by
  have hl : k < s.data.toList.length := by rw [data_len]; exact h
  exact ⟨s.data.toList[k], s.data.toList.drop (k + 1), List.drop_eq_getElem_cons hl, bt_data s k h, List.getElem?_eq_getElem hl⟩

set_option maxHeartbeats 2000000 in
theorem refCompare_any (a b : ByteArray) (w : World) (ha : a.size ≤ maxLen) (hb : b.size ≤ maxLen) :
    Calls Try.prog 20 #[.string a, .string b] w fun e w' => e = .returned (.int .i64 (Lib.compareBytes a.data.toList b.data.toList)) ∧ Below w.heap.size w w' := by
  unfold maxLen at ha hb
  have ga := get_bt a
  have gb := get_bt b
  go_enter Try.func20, Try.ntmps20
  go_wp2
  go_loopw [5] (fun i wr => ∃ k : Nat, k ≤ a.size ∧ k ≤ b.size ∧ i = .int .i64 (k : Int) ∧ Below w.heap.size w wr ∧ Hid (∀ j, j < k → a.data.toList[j]? = b.data.toList[j]?)) (fun i _ => a.size - (intOf i).toNat)
  case atStart => exact ⟨0, by omega, by omega, rfl, Below.refl _ _, fun j hj => by omega⟩
  case round =>
    obtain ⟨k, hka, hkb, rfl, hbl, HE⟩ := hrel
    have HC : Hid (Lib.compareBytes a.data.toList b.data.toList = Lib.compareBytes (a.data.toList.drop k) (b.data.toList.drop k)) := cmp_prefix k _ _ HE.out (by rw [data_len]; exact hka) (by rw [data_len]; exact hkb)
    by_cases hla : k < a.size
    · by_cases hlb : k < b.size
      · obtain ⟨x, r, ex, hx, ix⟩ := drop_at a k hla
        obtain ⟨y, q, ey, hy, iy⟩ := drop_at b k hlb
        have i1 : (k : Int) < (a.size : Int) := by omega
        have i2 : (k : Int) < (b.size : Int) := by omega
        have HC2 : Hid (Lib.compareBytes a.data.toList b.data.toList = Lib.compareBytes (x :: r) (y :: q)) := by show _ = _; rw [HC.out, ex, ey]
        have HI : Hid (a.data.toList[k]? = some x ∧ b.data.toList[k]? = some y) := ⟨ix, iy⟩
        have HX : Hid (bt a k = (x.toNat : Int) ∧ bt b k = (y.toNat : Int)) := ⟨hx, hy⟩
        clear ex ey ix iy HC hx hy
        by_cases c1 : bt a k < bt b k
        · have HR : Hid (Lib.compareBytes a.data.toList b.data.toList = -1) := by
            show _ = _
            have h1 := HX.out
            rw [HC2.out, Lib.compareBytes, if_pos (by rw [UInt8.lt_iff_toNat_lt]; omega)]
          have d1 : decide (bt a k < bt b k) = true := by simpa using c1
          clear HC2 HI HX HE
          go_wp2
          go_quiet (fail)
          go_wp2
          go_ret
          exact ⟨by rw [HR.out]; rfl, below_drewN hbl _⟩
        · by_cases c2 : bt b k < bt a k
          · have HR : Hid (Lib.compareBytes a.data.toList b.data.toList = 1) := by
              show _ = _
              have h1 := HX.out
              rw [HC2.out, Lib.compareBytes, if_neg (by rw [UInt8.lt_iff_toNat_lt]; omega), if_pos (by rw [UInt8.lt_iff_toNat_lt]; omega)]
            clear HC2 HI HX HE
            go_wp2
            go_quiet (fail)
            go_wp2
            go_quiet (fail)
            go_wp2
            go_ret
            exact ⟨by rw [HR.out]; rfl, below_drewN (below_drewN hbl _) _⟩
          · have HR : Hid (∀ j, j < k + 1 → a.data.toList[j]? = b.data.toList[j]?) := fun j hj => by
              by_cases e : j = k
              · subst e
                have h1 := HX.out
                rw [HI.out.1, HI.out.2, UInt8.toNat_inj.1 (show x.toNat = y.toNat by omega)]
              · exact HE.out j (by omega)
            clear HC2 HI HX HE
            go_wp2
            go_quiet (fail)
            go_wp2
            go_quiet (fail)
            go_wp2
            go_roundw
            case rel => exact ⟨k + 1, by omega, by omega, by go_num, below_drewN hbl _, HR⟩
            case measure => simp [intOf]; omega
      · have e : k = b.size := by omega
        have HR : Hid (Lib.compareBytes a.data.toList b.data.toList = 1) := by
          show _ = _
          obtain ⟨x, r, ex, _⟩ := drop_at a k hla
          rw [HC.out, ex, List.drop_of_length_le (by rw [data_len]; omega)]
          rfl
        clear HC HE
        have e1 : ¬ (a.size : Int) < (b.size : Int) := by omega
        go_wp2
        go_ret
        exact ⟨by rw [HR.out]; rfl, hbl⟩
    · have e : k = a.size := by omega
      by_cases hlb : k < b.size
      · have HR : Hid (Lib.compareBytes a.data.toList b.data.toList = -1) := by
          show _ = _
          obtain ⟨y, q, ey, _⟩ := drop_at b k hlb
          rw [HC.out, ey, List.drop_of_length_le (by rw [data_len]; omega)]
          rfl
        clear HC HE
        go_wp2
        go_ret
        exact ⟨by rw [HR.out]; rfl, hbl⟩
      · have HR : Hid (Lib.compareBytes a.data.toList b.data.toList = 0) := by
          show _ = _
          rw [HC.out, List.drop_of_length_le (by rw [data_len]; omega), List.drop_of_length_le (by rw [data_len]; omega)]
          rfl
        clear HC HE
        go_wp2
        go_ret
        exact ⟨by rw [HR.out]; rfl, hbl⟩

theorem walk (a b : ByteArray) (w : World) (ha : a.size ≤ maxLen) (hb : b.size ≤ maxLen) :
    Calls Try.prog 6 #[.string a, .string b] w fun e w' => e = .returned (.bool true) ∧ Below w.heap.size w w' := by
  have c1 := compare_any a b
  have c2 := compare_any b a
  have c3 := fun W => refCompare_any a b W ha hb
  rw [cmp_neg a.data.toList b.data.toList] at c2
  have hr := cmp_range a.data.toList b.data.toList
  generalize Lib.compareBytes a.data.toList b.data.toList = r at *
  go_enter Try.func6, Try.ntmps6
  go_wp2_with fail
  refine (c1 _).mono ?_
  rintro e w1 ⟨rfl, rfl⟩
  clear c1
  go_wp2_with fail
  refine (c2 _).mono ?_
  rintro e w1 ⟨rfl, rfl⟩
  clear c2
  go_wp2_with (first | (go_at_call 20; refine (c3 _).mono ?_; rintro e w2 ⟨rfl, hb2⟩) | (go_at_call 14; refine (live_any _).mono ?_; rintro e w3 ⟨rfl, hb3⟩))
  go_ret
  exact ⟨rfl, chain hb2 hb3⟩

theorem own : ownKnob Try.prog.godebug = none := by kernel_rfl
theorem laidOut : laidOutB Try.prog = true := by kernel_rfl

theorem contract (H : Type) (enc : TypeId × Value → H) (W : World) (base : Nat) (args : Array Value) (ds gs : List (DataW H)) (before : List MemPlace)
    (hval : ∀ (j : Nat) t v, Try.f6.params[j]? = some t → args[j]? = some v → Value.okWide Try.prog W .any base t v)
    (hW : DataW.Whole enc Try.prog Try.f6.params.toList Rows.textComparesSpec.vars false W args.toList ds gs before) :
    Calls Try.prog 6 args W fun e W' => ∃ v, e = .returned v ∧ Rows.textComparesSpec.post enc Try.prog Try.f6 false true false false W args v W' := by
  have hW' := hW
  obtain ⟨p, q, hA0, hV, rfl, hfz, hnd⟩ := hW
  have hA : DataW.TrodAll enc Try.prog W 0 (fun _ => true) true Try.f6.params.toList args.toList ds p := hA0
  rw [Try.params6] at hA hval
  obtain ⟨v0, vs0, d0, ds0, p0, q0, hargs, rfl, rfl, h0, r0⟩ := trodAll_cons hA
  obtain ⟨v1, vs1, d1, ds1, p1, q1, rfl, rfl, rfl, h1, r1⟩ := trodAll_cons r0
  obtain ⟨rfl, rfl, rfl⟩ := trodAll_nil r1
  obtain rfl : args = #[v0, v1] := by cases args; simp_all
  obtain ⟨rfl, rfl⟩ := trodVars_none hV
  have k0 := h0
  have lt0 : ∀ x ∈ p0, x.block < W.heap.size := by obtain ⟨m, hm⟩ := k0; exact DataW.trod_lt m _ _ _ hm
  have k1 := h1
  have lt1 : ∀ x ∈ p1, x.block < W.heap.size := by obtain ⟨m, hm⟩ := k1; exact DataW.trod_lt m _ _ _ hm
  obtain ⟨a0, rfl, rfl, rfl, w0⟩ := open_string Try.underlying9 (hval 0 9 v0 rfl rfl) h0
  obtain ⟨a1, rfl, rfl, rfl, w1⟩ := open_string Try.underlying9 (hval 1 9 v1 rfl rfl) h1
  clear hA0
  simp only [List.append_nil] at hW'
  refine (walk a0 a1 W w0 w1).mono fun e W' ⟨he, bel⟩ => ?_
  subst he
  exact ⟨_, rfl, _, _, _, [], _, [], hW', trodAll_mk1 (shut_bool Try.underlying4 _), (trodAll_cons_mk (Below.trod laidOut (by kernel_rfl) (of_decide_eq_true (by kernel_rfl)) k0 bel lt0) (trodAll_cons_mk (Below.trod laidOut (by kernel_rfl) (of_decide_eq_true (by kernel_rfl)) k1 bel lt1) trodAll_mk0)), rfl, bel.frame _, fun h => by cases h⟩

set_option maxRecDepth 100000 in
theorem lifted (os : Os) (started : os.Started) (H : Type) (enc : TypeId × Value → H) :
    ReturnsInHanded {} Try.checked os 6 .any (Rows.textComparesSpec.pre6 enc Try.prog Try.f6 Rows.textComparesRow.domain false) (Rows.textComparesSpec.post enc Try.prog Try.f6 false true false false) := by
  refine returnsInHanded_of_change (C := Try.checked) own started (by kernel_rfl) Try.func6
    (ChangeSpec.witness6 (enc := enc) (C := Try.checked) false ⟨#[], #[.string .empty, .string .empty], []⟩ 8 (by kernel_rfl) (by kernel_rfl) (by kernel_rfl) (by kernel_rfl)) ?_
  intro W base args ds gs before hval hW _ _
  exact contract H enc W base args ds gs before hval hW

theorem holds : Rows.TextComparesSaid :=
  OpenClaim.holds_of_wide 6 Try.f6 rfl rfl rfl rfl rfl rfl rfl ⟨rfl, rfl, rfl, rfl, rfl⟩ rfl rfl rfl rfl rfl (by kernel_rfl) Try.func6 (by kernel_rfl)
    (of_decide_eq_true (by kernel_rfl)) (by unfold Func.isWrapper; first | (rw [if_pos (by decide +kernel)]; kernel_rfl) | (rw [if_neg (by decide +kernel)]; exact ⟨rfl, rfl⟩))
    (fun os started H enc _ => lifted os started H enc)
end Go.Proofs.Ythkkdbcflfhmaaa.textCompares
namespace Go.Proofs.Ythkkdbcflfhmaaa
theorem textCompares_holds : Rows.TextComparesSaid := textCompares.holds
#print axioms textCompares_holds
end Go.Proofs.Ythkkdbcflfhmaaa
