/-
  Proved: a shelf is made on an empty device, with room enough; all else is refused, and nothing is written (the law ShelfMakes), for every input.
-/
import Derived.Test.YtkmdjhdininimaaShY
import Derived.Laws.MakeOwn
import Derived.Laws.OwnMore
namespace Go.Proofs.Ytkmdjhdininimaa
open Go.RowKit Go.Maps
theorem row_allM {w : World} {base g : Nat} {e : TypeId} {L : List Value} {n : Nat} (h : w.ownsRow base e 1 (.slice (some ⟨g, 0, none⟩) n n) n L) : w.heap[g]? = some (.cells L.toArray e) := by
  have hl := h.1
  rcases h.2 with ⟨h1, _⟩ | ⟨g', cap, cur, hv, _, hg, hn, _, hs, ht⟩
  · cases h1
  · cases hv
    rw [hg, ← ht, List.take_of_length_le (by simp; omega)]
theorem made64 : (madeCells (Value.cells (.int .u8 0)) (64 * 1)).toList = zeroC := by kernel_rfl
/-- The sector that is written. -/
def drt : Sec := zeroS.set 9 3
theorem drt_len : drt.length = 64 := by decide
theorem drt_ne : (drt == zeroS) = false := by decide
theorem drt_row : zeroC.toArray.setIfInBounds 9 (.int .u8 3) = (bv drt).toArray := by kernel_rfl
/-- A device with that one written. -/
def drtS (n k : Nat) : DevS := ((newS n).write (k : Int) (Go.Proofs.Ytkmdjhdininimaa.mk drt)).2.sync.2
theorem drtS_facts (n k : Nat) (hk : k < n) : (drtS n k).n = n ∧ (drtS n k).fuse = -1 ∧ (drtS n k).keys = [] ∧ (drtS n k).emp = false := by
  have e1 : (newS n).write (k : Int) (Go.Proofs.Ytkmdjhdininimaa.mk drt) = _ := write_go rfl k hk drt drt_len
  have e2 : drtS n k = { ({ newS n with waits := putF (newS n).waits k drt, fuse := burnt (newS n).fuse } : DevS).synced with fuse := burnt (burnt (newS n).fuse) } := by
    unfold drtS
    rw [e1, sync_go (by rfl)]
  rw [e2]
  refine ⟨rfl, rfl, keysF_none _, ?_⟩
  unfold DevS.emp
  rw [Bool.and_eq_false_iff]
  right
  rw [Bool.eq_false_iff]
  intro h
  have := List.all_eq_true.1 h k (List.mem_range.2 hk)
  rw [readAt_sync, readAt_write, if_pos rfl, drt_ne] at this
  cases this
section
variable {W0 W : World} {p bs bw : Nat} {s : DevS}
theorem nwait0 (h : ND W0 W p bs bw s) (hk : s.keys = []) : Calls Try.prog 16 #[.pointer (some ⟨p, 0, none⟩)] W fun e w' => ∃ ao cp, e = .returned (.slice ao 0 cp) ∧ ND W0 w' p bs bw s ∧ Below W.heap.size W w' :=
  (waiting_any h.dev).mono fun e w' ⟨v, h1, h2, _, h4⟩ => by
    rw [hk] at h2
    obtain ⟨ao, cp, rfl⟩ := own_formS h2
    exact ⟨ao, cp, h1, h.below h4, h4⟩
end
end Go.Proofs.Ytkmdjhdininimaa
namespace Go.Proofs.Ytkmdjhdininimaa.shelfMakes
open Go.RowKit Go.Maps Go.ChangeShapes Go.WideShapes Go.ChangeAt Go.PlainAid

set_option maxRecDepth 20000 in
set_option maxHeartbeats 1000000 in
theorem walk (c f : Int) (down : Bool) (w : World) (hc0 : -9223372036854775808 ≤ c) (hc1 : c ≤ 9223372036854775807) (hf0 : -9223372036854775808 ≤ f) (hf1 : f ≤ 9223372036854775807) :
    Calls Try.prog 3 #[.int .i64 c, .int .i64 f, .bool down] w fun e w' => e = .returned (.bool true) ∧ Below w.heap.size w w' := by
  have cK := pick_any c 3000 w hc0 hc1 (by omega) (by omega)
  have hpb := pickI_bd c 3000 (by omega)
  generalize pickI c 3000 = n0 at *
  obtain ⟨n, hn0⟩ : ∃ n : Nat, n0 = (n : Int) := ⟨n0.toNat, by omega⟩
  subst hn0
  have cN := ndev_any w w (Below.refl _ _) (8 + n) (by omega) (by omega)
  rw [show ((8 + n : Nat) : Int) = 8 + (n : Int) by omega] at cN
  go_enter Try.func3, Try.ntmps3
  go_wp2_with fail
  refine cK.mono ?_
  rintro e w0 ⟨rfl, rfl⟩
  go_wp2_with fail
  refine cN.mono ?_
  rintro e w1 ⟨p, bs, bw, rfl, hD1, -, -⟩
  clear cN cK
  have cB := begun_any w1
  go_wp2_with fail
  refine cB.mono ?_
  rintro e w2 ⟨rfl, hb2⟩
  have hD2 := hD1.below hb2
  clear cB hD1 hb2
  have cK := pick_any f (3 * (8 + (n : Int))) w2 hf0 hf1 (by omega) (by omega)
  have hpb2 := pickI_bd f (3 * (8 + (n : Int))) (by omega)
  generalize pickI f (3 * (8 + (n : Int))) = k0 at *
  obtain ⟨k, hk0⟩ : ∃ k : Nat, k0 = (k : Int) := ⟨k0.toNat, by omega⟩
  subst hk0
  go_wp2_with fail
  refine cK.mono ?_
  rintro e w3 ⟨rfl, rfl⟩
  clear cK
  go_upto_if 39 with fail
  go_cut [9] (fun _ wx => ∃ s : DevS, ND w0 wx p bs bw s ∧ s.n = 8 + n ∧ s.fuse = -1 ∧ s.keys = [] ∧ ((k < 8 + n ∧ s.emp = false) ∨ (¬ k < 8 + n ∧ s = newS (8 + n))))
  case first =>
    by_cases hlt : k < 8 + n
    · have hlt' : (k : Int) < 8 + (n : Int) := by omega
      obtain ⟨i0, hi, hz0, hz1, hz2⟩ := info_parts Try.infoU
      have hb1 : i0.bytes * 64 ≤ 281474976710656 := by rw [hz2]; decide
      go_wp2_with (first | (at_make; refine wpList_make_full _ rfl _ _ 28 rfl w3.heap.size 5 i0 (.int .u8 0) 1 Try.underlying28 hi hz0 hz1 _ _ _ _ 64 rfl rfl rfl rfl hb1 (by unfold maxLen; omega) (Nat.le_refl _) ?_; rw [made64]; intro w5 hown hg5; have hrow := row_allM hown; clear hown; have c9 : w5.cell? ⟨w3.heap.size, 9, none⟩ = some (.int .u8 0) := (by rw [cell_at hrow]; rfl); have z9 := frozen_at hrow 9; have hrow2 := heap_setCell hrow 9 (.int .u8 3); rw [drt_row] at hrow2; have hcv := conv_rowS drt drt_len hrow2; go_frame))
      have hbX : Below w3.heap.size w3 (w5.setCell ⟨w3.heap.size, 9, none⟩ (.int .u8 3)) := below_setS (Below.grown (Below.refl _ w3) hg5 (Nat.le_refl _) (fun k hk => by simp at hk)) (Nat.le_refl _) (Below.grown (Below.refl _ w3) hg5 (Nat.le_refl _) (fun k hk => by simp at hk)).size
      have hDX := hD2.below hbX
      have hall : ∀ x ∈ [p, bs, bw], w0.heap.size ≤ x := by have := hD2.lp; have := hD2.ls; have := hD2.lw; simp; omega
      have cW := write_all hDX.dev (k : Int) (Go.Proofs.Ytkmdjhdininimaa.mk drt)
      obtain ⟨f1, f2, f3, f4⟩ := drtS_facts (8 + n) k hlt
      have Hs : Hid (drtS (8 + n) k = ((newS (8 + n)).write (k : Int) (Go.Proofs.Ytkmdjhdininimaa.mk drt)).2.sync.2) := rfl
      clear hi hz0 hz1 hz2 hb1 hg5 hrow hrow2 hbX c9 z9
      generalize drtS (8 + n) k = S at *
      generalize (newS (8 + n)).write (k : Int) (Go.Proofs.Ytkmdjhdininimaa.mk drt) = R at *
      generalize Go.Proofs.Ytkmdjhdininimaa.mk drt = X at *
      refine cW.mono ?_
      rintro e w6 ⟨rfl, hd6, ho6⟩
      have hD6 := hDX.only hd6 ho6 hall
      clear cW hDX hd6 ho6 hcv
      have cS := sync_all hD6.dev
      go_wp2_with fail
      refine cS.mono ?_
      rintro e w7 ⟨rfl, hd7, ho7⟩
      rw [← Hs.out] at hd7
      have hD7 := hD6.only hd7 ho7 hall
      clear cS hD6 hd7 ho7
      go_wp2_with fail
      go_meet
      exact ⟨S, hD7, f1, f2, f3, .inl ⟨hlt, f4⟩⟩
    · have hlt' : ¬ (k : Int) < 8 + (n : Int) := by omega
      go_wp2_with fail
      go_meet
      exact ⟨_, hD2, rfl, rfl, newS_keys _, .inr ⟨hlt, rfl⟩⟩
  case rest =>
    obtain ⟨s, hD, hsn, hsf, hsk, hcase⟩ := hcut
    have cNn := fun W => snew_nil W
    have cOn := fun W => sopen_nil W
    cases down with
    | true =>
      have cF := fuse_ok hD.dev 0 (by omega) (by omega)
      go_wp2_with fail
      refine cF.mono ?_
      rintro e w5 ⟨rfl, hd5, ho5⟩
      have hD5 := hD.only hd5 ho5 (by have := hD.lp; simpa using this)
      clear cF hD hd5 ho5
      have cN := snew_down hD5.dev rfl
      go_wp2_with fail
      refine cN.mono ?_
      rintro e w6 ⟨rfl, hb6⟩
      have hD6 := hD5.below hb6
      clear cN hD5 hb6
      go_wp2_with fail
      refine (cNn _).mono ?_
      rintro e w7 ⟨rfl, hb7⟩
      have hD7 := hD6.below hb7
      clear cNn hD6 hb7
      go_wp2_with fail
      refine (cOn _).mono ?_
      rintro e w8 ⟨rfl, hb8⟩
      have hD8 := hD7.below hb8
      clear cOn hD7 hb8
      have cW := nwait0 hD8 hsk
      go_wp2_with fail
      refine cW.mono ?_
      rintro e w9 ⟨ao, cp, rfl, hD9, -⟩
      clear cW hD8
      go_wp2_with fail
      go_ret
      exact ⟨rfl, hD9.b⟩
    | false =>
      rcases hcase with ⟨hlt, hem⟩ | ⟨hlt, rfl⟩
      · have hlt' : (k : Int) < 8 + (n : Int) := by omega
        have cN := snew_full hD.dev (up_inf hsf) hem
        go_wp2_with fail
        refine cN.mono ?_
        rintro e w6 ⟨rfl, hb6⟩
        have hD6 := hD.below hb6
        clear cN hD hb6
        go_wp2_with fail
        refine (cNn _).mono ?_
        rintro e w7 ⟨rfl, hb7⟩
        have hD7 := hD6.below hb7
        clear cNn hD6 hb7
        go_wp2_with fail
        refine (cOn _).mono ?_
        rintro e w8 ⟨rfl, hb8⟩
        have hD8 := hD7.below hb8
        clear cOn hD7 hb8
        have cW := nwait0 hD8 hsk
        go_wp2_with fail
        refine cW.mono ?_
        rintro e w9 ⟨ao, cp, rfl, hD9, -⟩
        clear cW hD8
        go_wp2_with fail
        go_ret
        exact ⟨rfl, hD9.b⟩
      · have hlt' : ¬ (k : Int) < 8 + (n : Int) := by omega
        have cN := lv_new hD
        have hrm : (newS (8 + n)).room = min ((8 + n - 1) / 2 * 64) 40000 := room_of rfl
        obtain ⟨r, Hr⟩ : ∃ r, Hid ((newS (8 + n)).room = r) := ⟨_, rfl⟩
        rw [Hr.out] at hrm
        go_wp2_with fail
        refine cN.mono ?_
        rintro e w6 ⟨q, rfl, hL6, -, -⟩
        clear cN hD
        go_wp2_with fail
        refine (cNn _).mono ?_
        rintro e w7 ⟨rfl, hb7⟩
        have hL7 := hL6.below hb7
        clear cNn hL6 hb7
        go_wp2_with fail
        refine (cOn _).mono ?_
        rintro e w8 ⟨rfl, hb8⟩
        have hL8 := hL7.below hb8
        clear cOn hL7 hb8
        have cW := nwait0 hL8.toND hsk
        go_wp2_with fail
        refine cW.mono ?_
        rintro e w9 ⟨ao, cp, rfl, -, hb9⟩
        have hL9 := hL8.below hb9
        clear cW hL8 hb9
        have cG := lv_get0 hL9
        go_wp2_with fail
        refine cG.mono ?_
        rintro e w10 ⟨rfl, hL10, -⟩
        clear cG hL9
        have cR := lv_room hL10
        rw [Hr.out] at cR
        have hr1 : ¬ (40000 : Int) < (r : Int) := by omega
        have hr2 : ¬ (r : Int) < min (24 * (8 + (n : Int) - 8)) 40000 := by omega
        have hr3 : ¬ (r : Int) < min (24 * (n : Int)) 40000 := by omega
        clear hrm
        go_wp2_with fail
        refine cR.mono ?_
        rintro e w11 ⟨rfl, hL11, -⟩
        clear cR hL10
        have cR := lv_room hL11
        rw [Hr.out] at cR
        go_wp2_with fail
        refine cR.mono ?_
        rintro e w12 ⟨rfl, hL12, -⟩
        clear cR hL11
        have cR := lv_room hL12
        rw [Hr.out] at cR
        go_wp2_with fail
        refine cR.mono ?_
        rintro e w13 ⟨rfl, hL13, -⟩
        clear cR hL12
        have cO := lv_open hL13.rst hL13.fu
        go_wp2_with fail
        refine cO.mono ?_
        rintro e w14 ⟨q14, rfl, hL14, -, -⟩
        clear cO hL13
        have cG := lv_get0 hL14
        go_wp2_with fail
        refine cG.mono ?_
        rintro e w15 ⟨rfl, hL15, -⟩
        clear cG hL14
        have cR := lv_room hL15
        rw [Hr.out] at cR
        go_wp2_with fail
        refine cR.mono ?_
        rintro e w16 ⟨rfl, hL16, -⟩
        clear cR hL15
        go_wp2_with fail
        go_ret
        exact ⟨rfl, hL16.b⟩
theorem own : ownKnob Try.prog.godebug = none := by kernel_rfl
theorem laidOut : laidOutB Try.prog = true := by kernel_rfl

set_option maxRecDepth 20000 in
theorem contract (H : Type) (enc : TypeId × Value → H) (W : World) (base : Nat) (args : Array Value) (ds gs : List (DataW H)) (before : List MemPlace)
    (hval : ∀ (j : Nat) t v, Try.f3.params[j]? = some t → args[j]? = some v → Value.okWide Try.prog W .any base t v)
    (hW : DataW.Whole enc Try.prog Try.f3.params.toList Rows.shelfMakesSpec.vars false W args.toList ds gs before) :
    Calls Try.prog 3 args W fun e W' => ∃ v, e = .returned v ∧ Rows.shelfMakesSpec.post enc Try.prog Try.f3 false true false false W args v W' := by
  have hW' := hW
  obtain ⟨p, q, hA0, hV, rfl, hfz, hnd⟩ := hW
  have hA : DataW.TrodAll enc Try.prog W 0 (fun _ => true) true Try.f3.params.toList args.toList ds p := hA0
  rw [Try.params3] at hA hval
  obtain ⟨v0, vs0, d0, ds0, p0, q0, hargs, rfl, rfl, h0, r0⟩ := trodAll_cons hA
  obtain ⟨v1, vs1, d1, ds1, p1, q1, rfl, rfl, rfl, h1, r1⟩ := trodAll_cons r0
  obtain ⟨v2, vs2, d2, ds2, p2, q2, rfl, rfl, rfl, h2, r2⟩ := trodAll_cons r1
  obtain ⟨rfl, rfl, rfl⟩ := trodAll_nil r2
  obtain rfl : args = #[v0, v1, v2] := by cases args; simp_all
  obtain ⟨rfl, rfl⟩ := trodVars_none hV
  have k0 := h0
  have lt0 : ∀ x ∈ p0, x.block < W.heap.size := by obtain ⟨m, hm⟩ := k0; exact DataW.trod_lt m _ _ _ hm
  have k1 := h1
  have lt1 : ∀ x ∈ p1, x.block < W.heap.size := by obtain ⟨m, hm⟩ := k1; exact DataW.trod_lt m _ _ _ hm
  have k2 := h2
  have lt2 : ∀ x ∈ p2, x.block < W.heap.size := by obtain ⟨m, hm⟩ := k2; exact DataW.trod_lt m _ _ _ hm
  obtain ⟨a0, rfl, rfl, rfl, w0⟩ := open_int Try.underlying3 (hval 0 3 v0 rfl rfl) h0
  obtain ⟨a1, rfl, rfl, rfl, w1⟩ := open_int Try.underlying3 (hval 1 3 v1 rfl rfl) h1
  obtain ⟨a2, rfl, rfl, rfl⟩ := open_bool Try.underlying4 (hval 2 4 v2 rfl rfl) h2
  clear hA0
  simp only [List.append_nil] at hW'
  refine (walk a0 a1 a2 W (wf_bd w0).1 (wf_bd w0).2 (wf_bd w1).1 (wf_bd w1).2).mono fun e W' ⟨he, bel⟩ => ?_
  subst he
  exact ⟨_, rfl, _, _, _, [], _, [], hW', trodAll_mk1 (shut_bool Try.underlying4 _), (trodAll_cons_mk (Below.trod laidOut (by kernel_rfl) (of_decide_eq_true (by kernel_rfl)) k0 bel lt0) (trodAll_cons_mk (Below.trod laidOut (by kernel_rfl) (of_decide_eq_true (by kernel_rfl)) k1 bel lt1) (trodAll_cons_mk (Below.trod laidOut (by kernel_rfl) (of_decide_eq_true (by kernel_rfl)) k2 bel lt2) trodAll_mk0))), rfl, bel.frame _, fun h => by cases h⟩

set_option maxRecDepth 100000 in
theorem lifted (os : Os) (started : os.Started) (H : Type) (enc : TypeId × Value → H) :
    ReturnsInHanded {} Try.checked os 3 .any (Rows.shelfMakesSpec.pre6 enc Try.prog Try.f3 Rows.shelfMakesRow.domain false) (Rows.shelfMakesSpec.post enc Try.prog Try.f3 false true false false) := by
  refine returnsInHanded_of_change (C := Try.checked) own started (by kernel_rfl) Try.func3
    (ChangeSpec.witness6 (enc := enc) (C := Try.checked) false ⟨#[], #[.int .i64 0, .int .i64 0, .bool false], []⟩ 8 (by kernel_rfl) (by kernel_rfl) (by kernel_rfl) (by kernel_rfl)) ?_
  intro W base args ds gs before hval hW _ _
  exact contract H enc W base args ds gs before hval hW

theorem holds : Rows.ShelfMakesSaid :=
  OpenClaim.holds_of_wide 3 Try.f3 rfl rfl rfl rfl rfl rfl rfl ⟨rfl, rfl, rfl, rfl, rfl⟩ rfl rfl rfl rfl rfl (by kernel_rfl) Try.func3 (by kernel_rfl)
    (of_decide_eq_true (by kernel_rfl)) (by unfold Func.isWrapper; first | (rw [if_pos (by decide +kernel)]; kernel_rfl) | (rw [if_neg (by decide +kernel)]; exact ⟨rfl, rfl⟩))
    (fun os started H enc _ => lifted os started H enc)
end Go.Proofs.Ytkmdjhdininimaa.shelfMakes
namespace Go.Proofs.Ytkmdjhdininimaa
theorem shelfMakes_holds : Rows.ShelfMakesSaid := shelfMakes.holds
#print axioms shelfMakes_holds
end Go.Proofs.Ytkmdjhdininimaa
