/-
  Proved: shelves on two devices know nothing of one another (the law ShelfTwo), for every input.
-/
import Derived.Test.YtkmdjhdininimaaShY
namespace Go.Proofs.Ytkmdjhdininimaa.shelfTwo
open Go.RowKit Go.Maps Go.ChangeShapes Go.WideShapes Go.ChangeAt Go.PlainAid
open Go.ChangeMaps (open_string shut_string)

set_option maxRecDepth 20000 in
set_option maxHeartbeats 1000000 in
theorem walk (a b : ByteArray) (w : World) (ha : a.size ≤ maxLen) (hb : b.size ≤ maxLen) :
    Calls Try.prog 6 #[.string a, .string b] w fun e w' => e = .returned (.bool true) ∧ Below w.heap.size w w' := by
  unfold maxLen at ha hb
  go_enter Try.func6, Try.ntmps6
  go_upto_if 15 with fail
  go_cut [0] (fun v wx => ∃ y : ByteArray, v = .string y ∧ y.size ≤ 500 ∧ w = wx)
  case first =>
    by_cases h : 500 < a.size
    · have h' : (500 : Int) < (a.size : Int) := by omega
      go_wp2_with fail
      go_meet
      exact ⟨_, rfl, by simp [ByteArray.size_extract]; omega, rfl⟩
    · have h' : ¬ (500 : Int) < (a.size : Int) := by omega
      go_wp2_with fail
      go_meet
      exact ⟨_, rfl, by omega, rfl⟩
  case rest =>
    obtain ⟨x, rfl, hx, rfl⟩ := hcut
    clear ha
    go_upto_if 20 with fail
    go_cut [1] (fun v wx => ∃ y : ByteArray, v = .string y ∧ y.size ≤ 500 ∧ w = wx)
    case first =>
      by_cases h : 500 < b.size
      · have h' : (500 : Int) < (b.size : Int) := by omega
        go_wp2_with fail
        go_meet
        exact ⟨_, rfl, by simp [ByteArray.size_extract]; omega, rfl⟩
      · have h' : ¬ (500 : Int) < (b.size : Int) := by omega
        go_wp2_with fail
        go_meet
        exact ⟨_, rfl, by omega, rfl⟩
    case rest =>
      obtain ⟨y, rfl, hy, rfl⟩ := hcut
      clear hb
      have cN : Calls Try.prog 9 #[.int .i64 60] w _ := ndev_any w w (Below.refl _ _) 60 (by decide) (by decide)
      go_wp2_with fail
      refine cN.mono ?_
      rintro e w1 ⟨p, bs, bw, rfl, hD1, -, -⟩
      clear cN
      have cN : Calls Try.prog 9 #[.int .i64 60] w1 _ := ndev_any w w1 hD1.b 60 (by decide) (by decide)
      go_wp2_with fail
      refine cN.mono ?_
      rintro e w2 ⟨p', bs', bw', rfl, hE2, hlo2, hb2⟩
      have hD2 := hD1.below hb2
      have l1 := hD1.dev.ltp
      have l2 := hD1.dev.lts
      have l3 := hD1.dev.ltw
      have m1 := hE2.dev.ltp
      have m2 := hE2.dev.lts
      have m3 := hE2.dev.ltw
      clear cN hD1 hb2
      have cW := lv_new hD2
      go_wp2_with fail
      refine cW.mono ?_
      rintro e w3 ⟨q, rfl, hS3, hq3, hb3⟩
      have hE3 := hE2.below hb3
      have n1 := heap_lt hS3.sh
      clear cW hD2 hE2 hb3
      have cW := lv_new hE3
      go_wp2_with fail
      refine cW.mono ?_
      rintro e w4 ⟨q', rfl, hT4, hq4, hb4⟩
      have hS4 := hS3.below hb4
      clear cW hE3 hS3 hb4
      have cB := begun_any w4
      go_wp2_with fail
      refine cB.mono ?_
      rintro e w5 ⟨rfl, hb5⟩
      have hS5 := hS4.below hb5
      have hT5 := hT4.below hb5
      clear cB hS4 hT4 hb5
      have hrm : (newS 60).room = 1856 := rfl
      have cP := lv_putx hS5 x (by rw [hrm]; omega)
      go_wp2_with fail
      refine cP.mono ?_
      rintro e w6 ⟨s6, rfl, hn6, hS6, ho6⟩
      have hT6 := hT5.kept ho6 hS6.b (by simp; omega) (by simp; omega) (by simp; omega) (by simp; omega)
      clear cP hS5 hT5 ho6
      have cG := lv_get0 hT6
      go_wp2_with fail
      refine cG.mono ?_
      rintro e w7 ⟨rfl, hT7, hb7⟩
      have hS7 := hS6.below hb7
      clear cG hT6 hS6 hb7
      have cP := lv_putx hT7 y (by rw [hrm]; omega)
      go_wp2_with fail
      refine cP.mono ?_
      rintro e w8 ⟨t8, rfl, hn8, hT8, ho8⟩
      have hS8 := hS7.kept ho8 hT8.b (by simp; omega) (by simp; omega) (by simp; omega) (by simp; omega)
      clear cP hS7 hT7 ho8
      have cC := ncrash_any hT8.toND ⟨#[]⟩ (by decide)
      go_wp2_with fail
      refine cC.mono ?_
      rintro e w9 ⟨⟨k9, rfl⟩, hD9, ho9⟩
      have hS9 := hS8.kept ho9 hD9.b (by simp; omega) (by simp; omega) (by simp; omega) (by simp; omega)
      have hT9 : NS w w9 q' p' bs' bw' _ t8.age false := ⟨hD9, hT8.sh.only ho9 (hT8.sh.apart hT8.dev), hT8.lq⟩
      have hrd := crash_rdy t8 (⟨#[]⟩ : ByteArray).data.toList false
      clear cC hS8 hT8 hD9 ho9
      have cG := lv_getx hS9
      go_wp2_with fail
      refine cG.mono ?_
      rintro e w10 ⟨rfl, hS10, hb10⟩
      have hT10 := hT9.below hb10
      clear cG hS9 hT9 hb10
      have cG := nget_no hT10 hrd
      go_wp2_with fail
      refine cG.mono ?_
      rintro e w11 ⟨rfl, hT11, ho11⟩
      have hS11 := hS10.kept ho11 hT11.b (by simp; omega) (by simp; omega) (by simp; omega) (by simp; omega)
      clear cG hS10 hT10 ho11 hrd
      have cP := lv_putx hS11 y (by rw [room_of hn6]; show y.size ≤ 1856; omega)
      go_wp2_with fail
      refine cP.mono ?_
      rintro e w12 ⟨s12, rfl, -, hS12, -⟩
      clear cP hS11
      go_wp2_with fail
      go_ret
      exact ⟨rfl, hS12.b⟩
theorem own : ownKnob Try.prog.godebug = none := by kernel_rfl
theorem laidOut : laidOutB Try.prog = true := by kernel_rfl

set_option maxRecDepth 20000 in
theorem contract (H : Type) (enc : TypeId × Value → H) (W : World) (base : Nat) (args : Array Value) (ds gs : List (DataW H)) (before : List MemPlace)
    (hval : ∀ (j : Nat) t v, Try.f6.params[j]? = some t → args[j]? = some v → Value.okWide Try.prog W .any base t v)
    (hW : DataW.Whole enc Try.prog Try.f6.params.toList Rows.shelfTwoSpec.vars false W args.toList ds gs before) :
    Calls Try.prog 6 args W fun e W' => ∃ v, e = .returned v ∧ Rows.shelfTwoSpec.post enc Try.prog Try.f6 false true false false W args v W' := by
  have hW' := hW
  obtain ⟨p, q, hA0, hV, rfl, hfz, hnd⟩ := hW
  have hA : DataW.TrodAll enc Try.prog W 0 (fun _ => true) true Try.f6.params.toList args.toList ds p := hA0
  rw [Try.params6] at hA hval
  obtain ⟨v0, vs0, d0, ds0, p0, q0, hargs, rfl, rfl, h0, r0⟩ := trodAll_cons hA
  obtain ⟨v1, vs1, d1, ds1, p1, q1, rfl, rfl, rfl, h1, r1⟩ := trodAll_cons r0
  obtain ⟨rfl, rfl, rfl⟩ := trodAll_nil r1
  obtain rfl : args = #[v0, v1] := by cases args; simp_all
  obtain ⟨rfl, rfl⟩ := trodVars_none hV
  have k0 := h0
  have lt0 : ∀ x ∈ p0, x.block < W.heap.size := by obtain ⟨m, hm⟩ := k0; exact DataW.trod_lt m _ _ _ hm
  have k1 := h1
  have lt1 : ∀ x ∈ p1, x.block < W.heap.size := by obtain ⟨m, hm⟩ := k1; exact DataW.trod_lt m _ _ _ hm
  obtain ⟨a0, rfl, rfl, rfl, w0⟩ := open_string Try.underlying9 (hval 0 9 v0 rfl rfl) h0
  obtain ⟨a1, rfl, rfl, rfl, w1⟩ := open_string Try.underlying9 (hval 1 9 v1 rfl rfl) h1
  clear hA0
  simp only [List.append_nil] at hW'
  refine (walk a0 a1 W w0 w1).mono fun e W' ⟨he, bel⟩ => ?_
  subst he
  exact ⟨_, rfl, _, _, _, [], _, [], hW', trodAll_mk1 (shut_bool Try.underlying4 _), (trodAll_cons_mk (Below.trod laidOut (by kernel_rfl) (of_decide_eq_true (by kernel_rfl)) k0 bel lt0) (trodAll_cons_mk (Below.trod laidOut (by kernel_rfl) (of_decide_eq_true (by kernel_rfl)) k1 bel lt1) trodAll_mk0)), rfl, bel.frame _, fun h => by cases h⟩

set_option maxRecDepth 100000 in
theorem lifted (os : Os) (started : os.Started) (H : Type) (enc : TypeId × Value → H) :
    ReturnsInHanded {} Try.checked os 6 .any (Rows.shelfTwoSpec.pre6 enc Try.prog Try.f6 Rows.shelfTwoRow.domain false) (Rows.shelfTwoSpec.post enc Try.prog Try.f6 false true false false) := by
  refine returnsInHanded_of_change (C := Try.checked) own started (by kernel_rfl) Try.func6
    (ChangeSpec.witness6 (enc := enc) (C := Try.checked) false ⟨#[], #[.string .empty, .string .empty], []⟩ 8 (by kernel_rfl) (by kernel_rfl) (by kernel_rfl) (by kernel_rfl)) ?_
  intro W base args ds gs before hval hW _ _
  exact contract H enc W base args ds gs before hval hW

theorem holds : Rows.ShelfTwoSaid :=
  OpenClaim.holds_of_wide 6 Try.f6 rfl rfl rfl rfl rfl rfl rfl ⟨rfl, rfl, rfl, rfl, rfl⟩ rfl rfl rfl rfl rfl (by kernel_rfl) Try.func6 (by kernel_rfl)
    (of_decide_eq_true (by kernel_rfl)) (by unfold Func.isWrapper; first | (rw [if_pos (by decide +kernel)]; kernel_rfl) | (rw [if_neg (by decide +kernel)]; exact ⟨rfl, rfl⟩))
    (fun os started H enc _ => lifted os started H enc)
end Go.Proofs.Ytkmdjhdininimaa.shelfTwo
namespace Go.Proofs.Ytkmdjhdininimaa
theorem shelfTwo_holds : Rows.ShelfTwoSaid := shelfTwo.holds
#print axioms shelfTwo_holds
end Go.Proofs.Ytkmdjhdininimaa
