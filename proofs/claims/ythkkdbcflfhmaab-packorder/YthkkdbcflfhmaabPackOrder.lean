/-
  Proved: for any two words, the lesser word's four bytes are the lesser text, and the document's examples hold (the law PackOrder), for every input.
-/
import Derived.Test.YthkkdbcflfhmaabLive
import Derived.ShutString
import Derived.ChangeOld
namespace Go.Proofs.Ythkkdbcflfhmaab.packOrder
open Go.ChangeShapes Go.WideShapes Go.ChangeAt Go.RowKit Go.PlainAid
open Go.ChangeMaps (open_string shut_string)

theorem ofNat_lt (x y : Nat) (hx : x < 256) (hy : y < 256) : (UInt8.ofNat x < UInt8.ofNat y) = (x < y) := by
  rw [UInt8.lt_iff_toNat_lt]; simp; omega
theorem ofNat_beq (x y : Nat) (hx : x < 256) (hy : y < 256) : (UInt8.ofNat x == UInt8.ofNat y) = decide (x = y) := by
  rw [Bool.eq_iff_iff]; simp [← UInt8.toNat_inj]; omega

theorem word_less (x y : Nat) (hx : x ≤ 4294967295) (hy : y ≤ 4294967295) : Op.bytesLess (wordB x) (wordB y) = decide ((x : Int) < (y : Int)) := by
  simp only [wordB, Op.bytesLess]
  rw [ofNat_beq _ _ (by omega) (by omega), ofNat_beq _ _ (by omega) (by omega), ofNat_beq _ _ (by omega) (by omega)]
  simp only [ofNat_lt _ _ (show x / 16777216 < 256 by omega) (show y / 16777216 < 256 by omega), ofNat_lt _ _ (show x / 65536 % 256 < 256 by omega) (show y / 65536 % 256 < 256 by omega), ofNat_lt _ _ (show x / 256 % 256 < 256 by omega) (show y / 256 % 256 < 256 by omega), ofNat_lt _ _ (show x % 256 < 256 by omega) (show y % 256 < 256 by omega)]
  rw [Bool.eq_iff_iff]
  simp
  omega

theorem walk (a0 : Int) (a1 : Int) (w : World) (w0 : (Lit.int .u32 a0).wf = true) (w1 : (Lit.int .u32 a1).wf = true) :
    Calls Try.prog 7 #[.int .u32 a0, .int .u32 a1] w fun e w' => e = .returned (.bool true) ∧ Below w.heap.size w w' := by
  have b0 := bounds_u32 w0
  have b1 := bounds_u32 w1
  clear w0 w1
  obtain ⟨b00, b01⟩ := b0
  obtain ⟨b10, b11⟩ := b1
  go_enter Try.func7, Try.ntmps7
  go_wp2_with (first | (go_at_call 15; refine (live_any _).mono ?_; rintro e w1 ⟨rfl, hb1⟩) | (go_at_call 17; refine (word_int _ _ (by assumption) (by assumption)).mono ?_; rintro e w2 ⟨rfl, hb2⟩))
  rename_i w3 hb3
  have hfin : (Op.bytesLess (mk (wordB a0.toNat)).toList (mk (wordB a1.toNat)).toList == decide (a0 < a1)) = true := by
    rw [mk_list, mk_list, word_less _ _ (by omega) (by omega)]
    simp; omega
  go_ret
  exact ⟨ret_bool hfin, (hb1.trans (hb3.mono hb1.size)).trans (hb2.mono (Nat.le_trans hb1.size hb3.size))⟩

theorem own : ownKnob Try.prog.godebug = none := by kernel_rfl
theorem laidOut : laidOutB Try.prog = true := by kernel_rfl

theorem contract (H : Type) (enc : TypeId × Value → H) (W : World) (base : Nat) (args : Array Value) (ds gs : List (DataW H)) (before : List MemPlace)
    (hval : ∀ (j : Nat) t v, Try.f7.params[j]? = some t → args[j]? = some v → Value.okWide Try.prog W .any base t v)
    (hW : DataW.Whole enc Try.prog Try.f7.params.toList Rows.packOrderSpec.vars false W args.toList ds gs before) :
    Calls Try.prog 7 args W fun e W' => ∃ v, e = .returned v ∧ Rows.packOrderSpec.post enc Try.prog Try.f7 false true false false W args v W' := by
  have hW' := hW
  obtain ⟨p, q, hA0, hV, rfl, hfz, hnd⟩ := hW
  have hA : DataW.TrodAll enc Try.prog W 0 (fun _ => true) true Try.f7.params.toList args.toList ds p := hA0
  rw [Try.params7] at hA hval
  obtain ⟨v0, vs0, d0, ds0, p0, q0, hargs, rfl, rfl, h0, r0⟩ := trodAll_cons hA
  obtain ⟨v1, vs1, d1, ds1, p1, q1, rfl, rfl, rfl, h1, r1⟩ := trodAll_cons r0
  obtain ⟨rfl, rfl, rfl⟩ := trodAll_nil r1
  obtain rfl : args = #[v0, v1] := by cases args; simp_all
  obtain ⟨rfl, rfl⟩ := trodVars_none hV
  have k0 := h0
  have lt0 : ∀ x ∈ p0, x.block < W.heap.size := by obtain ⟨m, hm⟩ := k0; exact DataW.trod_lt m _ _ _ hm
  have k1 := h1
  have lt1 : ∀ x ∈ p1, x.block < W.heap.size := by obtain ⟨m, hm⟩ := k1; exact DataW.trod_lt m _ _ _ hm
  obtain ⟨a0, rfl, rfl, rfl, w0⟩ := open_int Try.underlying23 (hval 0 23 v0 rfl rfl) h0
  obtain ⟨a1, rfl, rfl, rfl, w1⟩ := open_int Try.underlying23 (hval 1 23 v1 rfl rfl) h1
  clear hA0
  simp only [List.append_nil] at hW'
  refine (walk a0 a1 W w0 w1).mono fun e W' ⟨he, bel⟩ => ?_
  subst he
  exact ⟨_, rfl, _, _, _, [], _, [], hW', trodAll_mk1 (shut_bool Try.underlying4 _), (trodAll_cons_mk (Below.trod laidOut (by kernel_rfl) (of_decide_eq_true (by kernel_rfl)) k0 bel lt0) (trodAll_cons_mk (Below.trod laidOut (by kernel_rfl) (of_decide_eq_true (by kernel_rfl)) k1 bel lt1) trodAll_mk0)), rfl, bel.frame _, fun h => by cases h⟩

set_option maxRecDepth 100000 in
theorem lifted (os : Os) (started : os.Started) (H : Type) (enc : TypeId × Value → H) :
    ReturnsInHanded {} Try.checked os 7 .any (Rows.packOrderSpec.pre6 enc Try.prog Try.f7 Rows.packOrderRow.domain false) (Rows.packOrderSpec.post enc Try.prog Try.f7 false true false false) := by
  refine returnsInHanded_of_change (C := Try.checked) own started (by kernel_rfl) Try.func7
    (ChangeSpec.witness6 (enc := enc) (C := Try.checked) false ⟨#[], #[.int .u32 0, .int .u32 0], []⟩ 8 (by kernel_rfl) (by kernel_rfl) (by kernel_rfl) (by kernel_rfl)) ?_
  intro W base args ds gs before hval hW _ _
  exact contract H enc W base args ds gs before hval hW

theorem holds : Rows.PackOrderSaid :=
  OpenClaim.holds_of_wide 7 Try.f7 rfl rfl rfl rfl rfl rfl rfl ⟨rfl, rfl, rfl, rfl, rfl⟩ rfl rfl rfl rfl rfl (by kernel_rfl) Try.func7 (by kernel_rfl)
    (of_decide_eq_true (by kernel_rfl)) (by unfold Func.isWrapper; first | (rw [if_pos (by decide +kernel)]; kernel_rfl) | (rw [if_neg (by decide +kernel)]; exact ⟨rfl, rfl⟩))
    (fun os started H enc _ => lifted os started H enc)
end Go.Proofs.Ythkkdbcflfhmaab.packOrder
namespace Go.Proofs.Ythkkdbcflfhmaab
theorem packOrder_holds : Rows.PackOrderSaid := packOrder.holds
#print axioms packOrder_holds
end Go.Proofs.Ythkkdbcflfhmaab
