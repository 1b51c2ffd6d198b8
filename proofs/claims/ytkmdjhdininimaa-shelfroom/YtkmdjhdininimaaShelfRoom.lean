/-
  Proved: a text as long as there is room for is kept, through a crash that lets nothing survive; one byte more is refused (the law ShelfRoom), for every input.
-/
import Derived.Test.YtkmdjhdininimaaShY
import Derived.Laws.MakeOwn
import Derived.Laws.OwnMore
namespace Go.Proofs.Ytkmdjhdininimaa
open Go.RowKit Go.Maps
theorem row_allR {w : World} {base g : Nat} {e : TypeId} {L : List Value} {n : Nat} (h : w.ownsRow base e 1 (.slice (some ⟨g, 0, none⟩) n n) n L) : w.heap[g]? = some (.cells L.toArray e) := by
  have hl := h.1
  rcases h.2 with ⟨h1, _⟩ | ⟨g', cap, cur, hv, _, hg, hn, _, hs, ht⟩
  · cases h1
  · cases hv
    rw [hg, ← ht, List.take_of_length_le (by simp; omega)]
theorem conv_any {w : World} {g : Nat} {t : TypeId} (s : List UInt8) (hg : w.heap[g]? = some (.cells (bv s).toArray t)) :
    (convert 28 9 (.slice (some ⟨g, 0, none⟩) s.length s.length)).run Try.prog w = .ok (.string (Go.Proofs.Ytkmdjhdininimaa.mk s)) w := by
  have := run_convert_bytes_back (P := Try.prog) w 28 9 5 ⟨g, 0, none⟩ s.length s Try.underlying28 Try.underlying5 Try.underlying9 (fun j hj => by
    have hadd : (⟨g, 0, none⟩ : Addr).add j = ⟨g, j, none⟩ := by unfold Addr.add; split <;> simp_all
    rw [hadd, cell_at hg]
    simp [bv, hj])
  exact this
theorem bv_set (L : List UInt8) (k : Nat) (b : UInt8) : (bv L).toArray.setIfInBounds k (.int .u8 (b.toNat : Int)) = (bv (L.set k b)).toArray := by
  apply Array.toList_inj.1
  simp [bv, List.map_set]
theorem u8_mod (x : Int) : ∃ b : UInt8, x % 256 = (b.toNat : Int) := by
  have h0 := Int.emod_nonneg x (b := 256) (by decide)
  have h1 := Int.emod_lt_of_pos x (b := 256) (by decide)
  exact ⟨UInt8.ofNat (x % 256).toNat, by rw [UInt8.toNat_ofNat']; omega⟩
section
variable {W0 W : World} {q p bs bw : Nat} {s : DevS} {t : List UInt8}
theorem lv_big (h : Lv W0 W q p bs bw s t) (l : List UInt8) (hl : s.room < l.length) : Calls Try.prog 24 #[.pointer (some ⟨q, 0, none⟩), .string (Go.Proofs.Ytkmdjhdininimaa.mk l)] W fun e w' => e = .returned (.int .i64 (if 40000 < l.length then 2 else 4)) ∧ Lv W0 w' q p bs bw s t ∧ Only [p, bs, bw, q] W w' := by
  have e0 : s.rmE l.length = if 40000 < l.length then 2 else 4 := by
    unfold DevS.rmE
    rw [if_pos hl]
  have e1 : s.rmE l.length ≠ 0 ∧ s.rmE l.length ≠ 3 := by rw [e0]; split <;> decide
  have e2 : putE s s.age false l = (s.rmE l.length, s) := by unfold putE; rw [if_pos h.rdy, if_neg e1.1]
  refine (nput_any h.toNS h.says.hd l).mono fun e w' ⟨h1, h2, h3⟩ => ?_
  rw [e2] at h1 h2
  have e3 : (false || decide ((s.rmE l.length, s).1 = 3)) = false := by simp [e1.2]
  rw [e3] at h2
  exact ⟨by rw [h1]; show Ending.returned (.int .i64 (s.rmE l.length)) = _; rw [e0], ⟨h2, h.fu, h.calm, h.says⟩, h3⟩
end
theorem mk_app (L M : List UInt8) : Go.Proofs.Ytkmdjhdininimaa.mk L ++ Go.Proofs.Ytkmdjhdininimaa.mk M = Go.Proofs.Ytkmdjhdininimaa.mk (L ++ M) := by
  apply ByteArray.ext
  apply Array.toList_inj.1
  simp [Go.Proofs.Ytkmdjhdininimaa.mk]
end Go.Proofs.Ytkmdjhdininimaa
namespace Go.Proofs.Ytkmdjhdininimaa.shelfRoom
open Go.RowKit Go.Maps Go.ChangeShapes Go.WideShapes Go.ChangeAt Go.PlainAid

set_option maxRecDepth 20000 in
set_option maxHeartbeats 1000000 in
theorem walk (c f : Int) (w : World) (hc0 : -9223372036854775808 ≤ c) (hc1 : c ≤ 9223372036854775807) (hf : (Lit.int .u8 f).wf = true) :
    Calls Try.prog 5 #[.int .i64 c, .int .u8 f] w fun e w' => e = .returned (.bool true) ∧ Below w.heap.size w w' := by
  have cK := pick_any c 3000 w hc0 hc1 (by omega) (by omega)
  have hpb := pickI_bd c 3000 (by omega)
  generalize pickI c 3000 = n0 at *
  obtain ⟨n, rfl⟩ : ∃ n : Nat, n0 = (n : Int) := ⟨n0.toNat, by omega⟩
  have cN := ndev_any w w (Below.refl _ _) (8 + n) (by omega) (by omega)
  rw [show ((8 + n : Nat) : Int) = 8 + (n : Int) by omega] at cN
  go_enter Try.func5, Try.ntmps5
  go_wp2_with fail
  refine cK.mono ?_
  rintro e w0 ⟨rfl, rfl⟩
  go_wp2_with fail
  refine cN.mono ?_
  rintro e w1 ⟨p, bs, bw, rfl, hD1, -, -⟩
  clear cN cK
  have cW := lv_new hD1
  go_wp2_with fail
  refine cW.mono ?_
  rintro e w2 ⟨q, rfl, hS2, -, -⟩
  clear cW hD1
  have cB := begun_any w2
  go_wp2_with fail
  refine cB.mono ?_
  rintro e w3 ⟨rfl, hb3⟩
  have hS3 := hS2.below hb3
  clear cB hS2 hb3
  have cR := lv_room hS3
  have hrm := room_le (newS (8 + n))
  obtain ⟨r, Hr⟩ : ∃ r, Hid ((newS (8 + n)).room = r) := ⟨_, rfl⟩
  rw [Hr.out] at cR hrm
  go_wp2_with fail
  refine cR.mono ?_
  rintro e w4 ⟨rfl, hS4, -⟩
  clear cR hS3
  obtain ⟨i0, hi, hz0, hz1, hz2⟩ := info_parts Try.infoU
  have hb1 : i0.bytes * r ≤ 281474976710656 := by rw [hz2]; omega
  have hmd : (madeCells (Value.cells (.int .u8 0)) (r * 1)).toList = bv (List.replicate r 0) := by
    rw [show (Value.int .u8 0).cells = #[.int .u8 0] from rfl, toList_madeCells_one]
    simp [bv]
  have hr2 := hrm.2
  go_wp2_with (first | (at_make; refine wpList_make_full _ rfl _ _ 28 rfl w4.heap.size 5 i0 (.int .u8 0) 1 Try.underlying28 hi hz0 hz1 _ _ _ _ r rfl rfl rfl rfl hb1 (by unfold maxLen; omega) (Nat.le_refl _) ?_; rw [hmd]; intro w5 hown hg5; have hrow := row_allR hown; clear hown; go_frame))
  have hS5 := hS4.below (Below.grown (Below.refl _ w4) hg5 (Nat.le_refl _) (fun k hk => by simp at hk))
  clear hi hz0 hz1 hz2 hb1 hmd hg5
  have h7 : 0 ≤ f ∧ f ≤ 255 := by
    have e0 : IntKind.u8.min = 0 := by decide
    have e1 : IntKind.u8.max = 255 := by decide
    simpa [Lit.wf, e0, e1] using hf
  clear hf
  go_loopw [11] (fun i wr => ∃ (k : Nat) (L : List UInt8), k ≤ r ∧ i = .int .i64 (k : Int) ∧ L.length = r ∧ wr.heap[w4.heap.size]? = some (.cells (bv L).toArray 5) ∧ Lv w0 wr q p bs bw (newS (8 + n)) []) (fun i _ => r - (intOf i).toNat)
  case atStart => exact ⟨0, List.replicate r 0, by omega, rfl, by simp, hrow, hS5⟩
  case round =>
    obtain ⟨k, L, hk, rfl, hL, hr, hS⟩ := hrel
    by_cases hlt : k < r
    · have hlt' : (k : Int) < (r : Int) := by omega
      obtain ⟨v, hv⟩ : ∃ v, wr.cell? ⟨w4.heap.size, k, none⟩ = some v := by
        rw [cell_at hr]
        exact ⟨_, Array.getElem?_eq_getElem (by simp [bv_len, hL, hlt])⟩
      have hf := frozen_at hr k
      obtain ⟨b, hb⟩ := u8_mod (f + (k : Int) % 7)
      have hn := heap_setCell hr k (.int .u8 (b.toNat : Int))
      rw [bv_set] at hn
      have Hb : Hid ((f + (k : Int) % 7) % 256 = (b.toNat : Int)) := hb
      have hS' : ∀ v, Lv w0 (wr.setCell ⟨w4.heap.size, k, none⟩ v) q p bs bw (newS (8 + n)) [] := fun v => hS.kept (Only.setCell (S := [w4.heap.size]) wr (p := ⟨w4.heap.size, k, none⟩) (by simp) v) (hS.b.trans ((Only.setCell (S := [w4.heap.size]) wr (p := ⟨w4.heap.size, k, none⟩) (by simp) v).below hS.b.size (by have := hS4.b.size; simpa using this))) (by have := hS4.dev.ltp; simp; omega) (by have := hS4.dev.lts; simp; omega) (by have := hS4.dev.ltw; simp; omega) (by have := heap_lt hS4.sh; simp; omega)
      clear hb hr
      go_wp2_with fail
      rw [Hb.out]
      exact ⟨⟨k + 1, L.set k b, by omega, by go_num, by simpa using hL, hn, hS' _⟩, by simp [intOf]; omega⟩
    · have hlt' : ¬ (k : Int) < (r : Int) := by omega
      have hcv := conv_any L hr
      rw [hL] at hcv
      have cP := lv_put hS L (by rw [Hr.out, hL]; exact Nat.le_refl _)
      have hg4 : w4.heap.size ∉ [p, bs, bw, q] := by have := hS4.dev.ltp; have := hS4.dev.lts; have := hS4.dev.ltw; have := heap_lt hS4.sh; simp; omega
      clear hS4 hS5 hrow
      go_wp2_with fail
      refine cP.mono ?_
      rintro e w6 ⟨s6, rfl, hn6, hS6, ho6⟩
      have hr6 := only_heap hr ho6 hg4
      have hcv6 := conv_any L hr6
      rw [hL] at hcv6
      clear cP hcv hS hr ho6
      have hrm6 : s6.room = r := (room_n hn6).trans Hr.out
      have cQ := lv_big hS6 (L ++ [120]) (by rw [hrm6]; simp [hL])
      rw [← mk_app] at cQ
      have Hrm6 : Hid (s6.room = r) := hrm6
      clear hrm6
      have hlen : (L ++ [120]).length = r + 1 := by simp [hL]
      rw [hlen] at cQ
      have cQ : Calls Try.prog 24 #[.pointer (some ⟨q, 0, none⟩), .string (Go.Proofs.Ytkmdjhdininimaa.mk L ++ ⟨#[120]⟩)] w6 _ := cQ
      clear hlen
      obtain ⟨er, her⟩ : ∃ er : Int, er = if 40000 < r + 1 then 2 else 4 := ⟨_, rfl⟩
      rw [← her] at cQ
      have her2 : er = 4 ∧ r < 40000 ∨ er = 2 ∧ r = 40000 := by
        by_cases h1 : 40000 < r + 1
        · rw [if_pos h1] at her; exact .inr ⟨her, by omega⟩
        · rw [if_neg h1] at her; exact .inl ⟨her, by omega⟩
      clear her
      have hms : ¬ 9223372036854775807 < (Go.Proofs.Ytkmdjhdininimaa.mk L).size + (⟨#[120]⟩ : ByteArray).size := by rw [mks, hL]; show ¬ 9223372036854775807 < r + 1; omega
      have hms2 : (Go.Proofs.Ytkmdjhdininimaa.mk L).size ≤ 40000 := by rw [mks, hL]; exact hr2
      go_wp2_with fail
      refine cQ.mono ?_
      rintro e w7 ⟨rfl, hS7, ho7⟩
      have hr7 := only_heap hr6 ho7 hg4
      clear cQ hS6 hr6 ho7 hcv6
      have cX := ncrash_any hS7.toND ⟨#[]⟩ (by decide)
      have hs8 := hS7.crash []
      clear hS7
      go_upto_region 14 with fail
      go_cut [73] (fun v wx => v = .bool false ∧ w7 = wx)
      case first =>
        rcases her2 with ⟨rfl, h4⟩ | ⟨rfl, rfl⟩
        · go_wp2_with fail
          go_meet
          exact ⟨rfl, rfl⟩
        · go_wp2_with fail
          go_meet
          exact ⟨rfl, rfl⟩
      case rest =>
        obtain ⟨rfl, rfl⟩ := hcut
        go_wp2_with fail
        refine cX.mono ?_
        rintro e w8 ⟨⟨k8, rfl⟩, hD8, ho8⟩
        have hg3 : w4.heap.size ∉ [p, bs, bw] := by simp at hg4; simp; omega
        have hr8 := only_heap hr7 ho8 hg3
        clear cX hr7 ho8
        have cO := lv_open (rst_crash hD8 hs8) rfl
        clear hD8 hs8
        go_wp2_with fail
        refine cO.mono ?_
        rintro e w9 ⟨q9, rfl, hL9, -, ho9⟩
        have hr9 := only_heap hr8 ho9 hg3
        clear cO hr8 ho9
        have cG : ∀ u : Beh w9, Calls Try.prog 17 #[.pointer (some ⟨q9, 0, none⟩)] u.it fun e w' => e = .returned (.string (Go.Proofs.Ytkmdjhdininimaa.mk L)) ∧ Below u.it.heap.size u.it w' := fun u => (lv_get (hL9.below u.h)).mono fun _ _ ⟨h1, _, h3⟩ => ⟨h1, h3⟩
        have hcv : ∀ u : Beh w9, (convert 28 9 (.slice (some ⟨w4.heap.size, 0, none⟩) r r)).run Try.prog u.it = .ok (.string (Go.Proofs.Ytkmdjhdininimaa.mk L)) u.it := fun u => by
          have := conv_any L ((u.h.block _ (heap_lt hr9)).trans hr9)
          rw [hL] at this
          exact this
        have hb9 := hL9.b
        clear hL9 hr9
        generalize Go.Proofs.Ytkmdjhdininimaa.mk L = X at *
        go_upto_region 18 with fail
        refine wp_region_beh (by kernel_rfl) (by kernel_rfl) ?_
        repeat (go_big_quiet_step ((go_at_call 17; exact Beh.call (cG _))))
        refine wpQuiet_nil ?_
        intro wq hw'
        have hwq := Beh.out hw'
        clear hw' cG hcv
        go_wp2_with fail
        go_ret
        exact ⟨rfl, hb9.trans (hwq.mono hb9.size)⟩
theorem own : ownKnob Try.prog.godebug = none := by kernel_rfl
theorem laidOut : laidOutB Try.prog = true := by kernel_rfl

set_option maxRecDepth 20000 in
theorem contract (H : Type) (enc : TypeId × Value → H) (W : World) (base : Nat) (args : Array Value) (ds gs : List (DataW H)) (before : List MemPlace)
    (hval : ∀ (j : Nat) t v, Try.f5.params[j]? = some t → args[j]? = some v → Value.okWide Try.prog W .any base t v)
    (hW : DataW.Whole enc Try.prog Try.f5.params.toList Rows.shelfRoomSpec.vars false W args.toList ds gs before) :
    Calls Try.prog 5 args W fun e W' => ∃ v, e = .returned v ∧ Rows.shelfRoomSpec.post enc Try.prog Try.f5 false true false false W args v W' := by
  have hW' := hW
  obtain ⟨p, q, hA0, hV, rfl, hfz, hnd⟩ := hW
  have hA : DataW.TrodAll enc Try.prog W 0 (fun _ => true) true Try.f5.params.toList args.toList ds p := hA0
  rw [Try.params5] at hA hval
  obtain ⟨v0, vs0, d0, ds0, p0, q0, hargs, rfl, rfl, h0, r0⟩ := trodAll_cons hA
  obtain ⟨v1, vs1, d1, ds1, p1, q1, rfl, rfl, rfl, h1, r1⟩ := trodAll_cons r0
  obtain ⟨rfl, rfl, rfl⟩ := trodAll_nil r1
  obtain rfl : args = #[v0, v1] := by cases args; simp_all
  obtain ⟨rfl, rfl⟩ := trodVars_none hV
  have k0 := h0
  have lt0 : ∀ x ∈ p0, x.block < W.heap.size := by obtain ⟨m, hm⟩ := k0; exact DataW.trod_lt m _ _ _ hm
  have k1 := h1
  have lt1 : ∀ x ∈ p1, x.block < W.heap.size := by obtain ⟨m, hm⟩ := k1; exact DataW.trod_lt m _ _ _ hm
  obtain ⟨a0, rfl, rfl, rfl, w0⟩ := open_int Try.underlying3 (hval 0 3 v0 rfl rfl) h0
  obtain ⟨a1, rfl, rfl, rfl, w1⟩ := open_int Try.underlying5 (hval 1 5 v1 rfl rfl) h1
  clear hA0
  simp only [List.append_nil] at hW'
  refine (walk a0 a1 W (wf_bd w0).1 (wf_bd w0).2 w1).mono fun e W' ⟨he, bel⟩ => ?_
  subst he
  exact ⟨_, rfl, _, _, _, [], _, [], hW', trodAll_mk1 (shut_bool Try.underlying4 _), (trodAll_cons_mk (Below.trod laidOut (by kernel_rfl) (of_decide_eq_true (by kernel_rfl)) k0 bel lt0) (trodAll_cons_mk (Below.trod laidOut (by kernel_rfl) (of_decide_eq_true (by kernel_rfl)) k1 bel lt1) trodAll_mk0)), rfl, bel.frame _, fun h => by cases h⟩

set_option maxRecDepth 100000 in
theorem lifted (os : Os) (started : os.Started) (H : Type) (enc : TypeId × Value → H) :
    ReturnsInHanded {} Try.checked os 5 .any (Rows.shelfRoomSpec.pre6 enc Try.prog Try.f5 Rows.shelfRoomRow.domain false) (Rows.shelfRoomSpec.post enc Try.prog Try.f5 false true false false) := by
  refine returnsInHanded_of_change (C := Try.checked) own started (by kernel_rfl) Try.func5
    (ChangeSpec.witness6 (enc := enc) (C := Try.checked) false ⟨#[], #[.int .i64 0, .int .u8 0], []⟩ 8 (by kernel_rfl) (by kernel_rfl) (by kernel_rfl) (by kernel_rfl)) ?_
  intro W base args ds gs before hval hW _ _
  exact contract H enc W base args ds gs before hval hW

theorem holds : Rows.ShelfRoomSaid :=
  OpenClaim.holds_of_wide 5 Try.f5 rfl rfl rfl rfl rfl rfl rfl ⟨rfl, rfl, rfl, rfl, rfl⟩ rfl rfl rfl rfl rfl (by kernel_rfl) Try.func5 (by kernel_rfl)
    (of_decide_eq_true (by kernel_rfl)) (by unfold Func.isWrapper; first | (rw [if_pos (by decide +kernel)]; kernel_rfl) | (rw [if_neg (by decide +kernel)]; exact ⟨rfl, rfl⟩))
    (fun os started H enc _ => lifted os started H enc)
end Go.Proofs.Ytkmdjhdininimaa.shelfRoom
namespace Go.Proofs.Ytkmdjhdininimaa
theorem shelfRoom_holds : Rows.ShelfRoomSaid := shelfRoom.holds
#print axioms shelfRoom_holds
end Go.Proofs.Ytkmdjhdininimaa
