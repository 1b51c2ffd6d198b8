/-
  Proved: cut off at any point, whatever survives, a Put is there wholly or not at all (the law ShelfEvery), for every input.
-/
import Derived.Test.YtkmdjhdininimaaShY
namespace Go.Proofs.Ytkmdjhdininimaa
open Go.RowKit Go.Maps
theorem strings_ne {a b : ByteArray} (h : a ≠ b) : (a.toList == b.toList) = false := by
  rw [beq_eq_false_iff_ne, ne_eq, Go.ByteArray.toList_eq, Go.ByteArray.toList_eq]
  intro e
  exact h (ByteArray.ext (Array.ext' e))

section
variable {W0 W : World} {q p bs bw : Nat} {s : DevS} {t : List UInt8}
/-- A Put, and what is behind a crash. -/
theorem evput (h : NS W0 W q p bs bw s s.age false) (hk : s.keys = []) (ht : Says s t) (y : ByteArray) (hl : y.size ≤ s.room) : Calls Try.prog 24 #[.pointer (some ⟨q, 0, none⟩), .string y] W fun e w' => ∃ (er : Int) (s' : DevS), e = .returned (.int .i64 er) ∧ ND W0 w' p bs bw s' ∧ ((er = 0 ∧ ∀ m, Says (s'.crashed m) y.data.toList) ∨ (er = 3 ∧ ∀ m, Says (s'.crashed m) t ∨ Says (s'.crashed m) y.data.toList)) := by
  cases hu : s.up with
  | false => exact (nput_dead h (down_rdy hu _ _) y).mono fun e w' ⟨h1, h2⟩ => ⟨3, s, h1, h2.toND, .inr ⟨rfl, fun m => .inl (ht.crash hk h.dev.lo m)⟩⟩
  | true =>
    have c := nput_live h hu hk ht y.data.toList (by rw [bytes_len]; exact hl)
    rw [mk_data] at c
    refine c.mono fun e w' ⟨s', h1, _, _, h4⟩ => ?_
    rcases h4 with ⟨e1, e2, _, e4, e5⟩ | ⟨e1, e2, _, _, e5⟩
    · exact ⟨0, s', e1, e2.toND, .inl ⟨rfl, fun m => e5.crash e4 e2.dev.lo m⟩⟩
    · exact ⟨3, s', e1, e2.toND, .inr ⟨rfl, e5⟩⟩
theorem says_fuse (h : Says s t) (n : Int) : Says { s with fuse := n } t := h.of rfl rfl (fun _ _ => rfl)
end
end Go.Proofs.Ytkmdjhdininimaa
namespace Go.Proofs.Ytkmdjhdininimaa.shelfEvery
open Go.RowKit Go.Maps Go.ChangeShapes Go.WideShapes Go.ChangeAt Go.PlainAid
open Go.ChangeMaps (open_string shut_string)

set_option maxRecDepth 20000 in
set_option maxHeartbeats 1000000 in
theorem walk (a b m : ByteArray) (w : World) (ha : a.size ≤ maxLen) (hb : b.size ≤ maxLen) (hm : m.size ≤ maxLen) :
    Calls Try.prog 7 #[.string a, .string b, .string m] w fun e w' => e = .returned (.bool true) ∧ Below w.heap.size w w' := by
  have cN : Calls Try.prog 9 #[.int .i64 60] w _ := ndev_any w w (Below.refl _ _) 60 (by decide) (by decide)
  go_enter Try.func7, Try.ntmps7
  go_wp2_with fail
  refine cN.mono ?_
  rintro e w1 ⟨p, bs, bw, rfl, hD1, -, -⟩
  clear cN
  have cW := lv_new hD1
  go_wp2_with fail
  refine cW.mono ?_
  rintro e w2 ⟨q, rfl, hS2, -, -⟩
  clear cW hD1
  have cB := begun_any w2
  go_wp2_with fail
  refine cB.mono ?_
  rintro e w3 ⟨rfl, hb3⟩
  have hS3 := hS2.below hb3
  clear cB hS2 hb3
  unfold maxLen at ha hb
  go_upto_if 39 with fail
  go_cut [0] (fun v wx => ∃ y : ByteArray, v = .string y ∧ y.size ≤ 1000 ∧ w3 = wx)
  case first =>
    by_cases h : 1000 < a.size
    · have h' : (1000 : Int) < (a.size : Int) := by omega
      go_wp2_with fail
      go_meet
      exact ⟨_, rfl, by simp [ByteArray.size_extract]; omega, rfl⟩
    · have h' : ¬ (1000 : Int) < (a.size : Int) := by omega
      go_wp2_with fail
      go_meet
      exact ⟨_, rfl, by omega, rfl⟩
  case rest =>
    obtain ⟨x, rfl, hx, rfl⟩ := hcut
    clear ha
    go_upto_if 44 with fail
    go_cut [1] (fun v wx => ∃ y : ByteArray, v = .string y ∧ y.size ≤ 1000 ∧ w3 = wx)
    case first =>
      by_cases h : 1000 < b.size
      · have h' : (1000 : Int) < (b.size : Int) := by omega
        go_wp2_with fail
        go_meet
        exact ⟨_, rfl, by simp [ByteArray.size_extract]; omega, rfl⟩
      · have h' : ¬ (1000 : Int) < (b.size : Int) := by omega
        go_wp2_with fail
        go_meet
        exact ⟨_, rfl, by omega, rfl⟩
    case rest =>
      obtain ⟨y, rfl, hy, rfl⟩ := hcut
      clear hb
      have hrm : (newS 60).room = 1856 := rfl
      have cP := lv_putx hS3 x (by rw [hrm]; omega)
      go_wp2_with fail
      refine cP.mono ?_
      rintro e w4 ⟨s, rfl, hn, hS4, -⟩
      clear cP hS3
      have hrs : s.room = 1856 := by rw [room_n hn]; rfl
      have Hrs : Hid (s.room = 1856) := hrs
      clear hn hrs hrm
      go_wp2_with fail
      go_loopw [11] (fun f wr => ∃ k : Nat, k ≤ 201 ∧ f = .int .i64 (k : Int) ∧ Lv w wr q p bs bw s x.data.toList) (fun f _ => 201 - (intOf f).toNat)
      case atStart => exact ⟨0, by omega, rfl, hS4⟩
      case round =>
        obtain ⟨k, hk, rfl, hS⟩ := hrel
        by_cases hlt : k ≤ 200
        · have hlt' : (k : Int) ≤ 200 := by omega
          have cC := copydev_any hS.dev
          go_wp2_with fail
          refine cC.mono ?_
          rintro e w1 ⟨p', bs', bw', rfl, hd1, hp1, hs1, hw1, hb1⟩
          have hR1 : Rst wr w1 p' bs' bw' s x.data.toList := ⟨⟨hd1, hb1, hp1, hs1, hw1⟩, hS.calm, hS.says⟩
          clear cC hd1 hp1 hs1 hw1 hb1
          have cO := lv_open hR1 hS.fu
          go_wp2_with fail
          refine cO.mono ?_
          rintro e w2 ⟨q', rfl, hL2, -, -⟩
          clear cO hR1
          have cG := lv_getx hL2
          go_wp2_with fail
          refine cG.mono ?_
          rintro e w5 ⟨rfl, hL5, -⟩
          clear cG hL2
          have cF := fuse_ok hL5.dev (k : Int) (by omega) (by omega)
          go_wp2_with fail
          refine cF.mono ?_
          rintro e w6 ⟨rfl, hd6, ho6⟩
          have hN6 : NS wr w6 q' p' bs' bw' { s with fuse := (k : Int) } s.age false := ⟨hL5.toND.only hd6 ho6 (by have := hL5.lp; simpa using this), hL5.sh.only ho6 (by have := hL5.sh.apart hL5.dev; simp at this; simp [this.1]), hL5.lq⟩
          clear cF hL5 hd6 ho6
          have cP := evput hN6 hS.calm (says_fuse hS.says _) y (by show y.size ≤ s.room; rw [Hrs.out]; omega)
          go_wp2_with fail
          refine cP.mono ?_
          rintro e w7 ⟨er, s7, rfl, hD7, hE7⟩
          clear cP hN6
          have cX := ncrash_any hD7 m hm
          go_wp2_with fail
          refine cX.mono ?_
          rintro e w8 ⟨⟨k8, rfl⟩, hD8, -⟩
          have hT : ∃ T : ByteArray, Rst wr w8 p' bs' bw' (s7.crashed m.data.toList) T.data.toList ∧ ((er = 0 ∧ T = y) ∨ (er = 3 ∧ T = y) ∨ (er = 3 ∧ T = x ∧ x ≠ y)) := by
            rcases hE7 with ⟨e1, e2⟩ | ⟨e1, e2⟩
            · exact ⟨y, rst_crash hD8 (e2 _), .inl ⟨e1, rfl⟩⟩
            · rcases e2 m.data.toList with e3 | e3
              · by_cases hxy : x = y
                · exact ⟨x, rst_crash hD8 e3, .inr (.inl ⟨e1, hxy⟩)⟩
                · exact ⟨x, rst_crash hD8 e3, .inr (.inr ⟨e1, rfl, hxy⟩)⟩
              · exact ⟨y, rst_crash hD8 e3, .inr (.inl ⟨e1, rfl⟩)⟩
          obtain ⟨T, hR8, hcase⟩ := hT
          clear cX hD7 hE7 hD8
          have cO := lv_open hR8 rfl
          go_wp2_with fail
          refine cO.mono ?_
          rintro e w9 ⟨q9, rfl, hL9, -, -⟩
          clear cO hR8
          have cG := lv_getx hL9
          go_wp2_with fail
          refine cG.mono ?_
          rintro e w10 ⟨rfl, hL10, -⟩
          clear cG hL9
          rcases hcase with ⟨rfl, rfl⟩ | ⟨rfl, rfl⟩ | ⟨rfl, rfl, hxy⟩
          · have hb := hL10.b
            clear hL10
            go_wp2_with fail
            go_ret
            exact ⟨rfl, hS.b.trans (hb.mono hS.b.size)⟩
          · have hb := hL10.b
            clear hL10
            go_wp2_with fail
            go_roundw
            case rel => exact ⟨k + 1, by omega, by go_num, hS.below hb⟩
            case measure => simp [intOf]; omega
          · have hne := strings_ne hxy
            have cG := lv_getx hL10
            go_wp2_with fail
            refine cG.mono ?_
            rintro e w11 ⟨rfl, hL11, -⟩
            have hb := hL11.b
            clear hL10 hL11 cG
            go_wp2_with fail
            go_roundw
            case rel => exact ⟨k + 1, by omega, by go_num, hS.below hb⟩
            case measure => simp [intOf]; omega
        · have hlt' : ¬ (k : Int) ≤ 200 := by omega
          go_wp2_with fail
          go_ret
          exact ⟨rfl, hS.b⟩
theorem own : ownKnob Try.prog.godebug = none := by kernel_rfl
theorem laidOut : laidOutB Try.prog = true := by kernel_rfl

set_option maxRecDepth 20000 in
theorem contract (H : Type) (enc : TypeId × Value → H) (W : World) (base : Nat) (args : Array Value) (ds gs : List (DataW H)) (before : List MemPlace)
    (hval : ∀ (j : Nat) t v, Try.f7.params[j]? = some t → args[j]? = some v → Value.okWide Try.prog W .any base t v)
    (hW : DataW.Whole enc Try.prog Try.f7.params.toList Rows.shelfEverySpec.vars false W args.toList ds gs before) :
    Calls Try.prog 7 args W fun e W' => ∃ v, e = .returned v ∧ Rows.shelfEverySpec.post enc Try.prog Try.f7 false true false false W args v W' := by
  have hW' := hW
  obtain ⟨p, q, hA0, hV, rfl, hfz, hnd⟩ := hW
  have hA : DataW.TrodAll enc Try.prog W 0 (fun _ => true) true Try.f7.params.toList args.toList ds p := hA0
  rw [Try.params7] at hA hval
  obtain ⟨v0, vs0, d0, ds0, p0, q0, hargs, rfl, rfl, h0, r0⟩ := trodAll_cons hA
  obtain ⟨v1, vs1, d1, ds1, p1, q1, rfl, rfl, rfl, h1, r1⟩ := trodAll_cons r0
  obtain ⟨v2, vs2, d2, ds2, p2, q2, rfl, rfl, rfl, h2, r2⟩ := trodAll_cons r1
  obtain ⟨rfl, rfl, rfl⟩ := trodAll_nil r2
  obtain rfl : args = #[v0, v1, v2] := by cases args; simp_all
  obtain ⟨rfl, rfl⟩ := trodVars_none hV
  have k0 := h0
  have lt0 : ∀ x ∈ p0, x.block < W.heap.size := by obtain ⟨m, hm⟩ := k0; exact DataW.trod_lt m _ _ _ hm
  have k1 := h1
  have lt1 : ∀ x ∈ p1, x.block < W.heap.size := by obtain ⟨m, hm⟩ := k1; exact DataW.trod_lt m _ _ _ hm
  have k2 := h2
  have lt2 : ∀ x ∈ p2, x.block < W.heap.size := by obtain ⟨m, hm⟩ := k2; exact DataW.trod_lt m _ _ _ hm
  obtain ⟨a0, rfl, rfl, rfl, w0⟩ := open_string Try.underlying9 (hval 0 9 v0 rfl rfl) h0
  obtain ⟨a1, rfl, rfl, rfl, w1⟩ := open_string Try.underlying9 (hval 1 9 v1 rfl rfl) h1
  obtain ⟨a2, rfl, rfl, rfl, w2⟩ := open_string Try.underlying9 (hval 2 9 v2 rfl rfl) h2
  clear hA0
  simp only [List.append_nil] at hW'
  refine (walk a0 a1 a2 W w0 w1 w2).mono fun e W' ⟨he, bel⟩ => ?_
  subst he
  exact ⟨_, rfl, _, _, _, [], _, [], hW', trodAll_mk1 (shut_bool Try.underlying4 _), (trodAll_cons_mk (Below.trod laidOut (by kernel_rfl) (of_decide_eq_true (by kernel_rfl)) k0 bel lt0) (trodAll_cons_mk (Below.trod laidOut (by kernel_rfl) (of_decide_eq_true (by kernel_rfl)) k1 bel lt1) (trodAll_cons_mk (Below.trod laidOut (by kernel_rfl) (of_decide_eq_true (by kernel_rfl)) k2 bel lt2) trodAll_mk0))), rfl, bel.frame _, fun h => by cases h⟩

set_option maxRecDepth 100000 in
theorem lifted (os : Os) (started : os.Started) (H : Type) (enc : TypeId × Value → H) :
    ReturnsInHanded {} Try.checked os 7 .any (Rows.shelfEverySpec.pre6 enc Try.prog Try.f7 Rows.shelfEveryRow.domain false) (Rows.shelfEverySpec.post enc Try.prog Try.f7 false true false false) := by
  refine returnsInHanded_of_change (C := Try.checked) own started (by kernel_rfl) Try.func7
    (ChangeSpec.witness6 (enc := enc) (C := Try.checked) false ⟨#[], #[.string .empty, .string .empty, .string .empty], []⟩ 8 (by kernel_rfl) (by kernel_rfl) (by kernel_rfl) (by kernel_rfl)) ?_
  intro W base args ds gs before hval hW _ _
  exact contract H enc W base args ds gs before hval hW

theorem holds : Rows.ShelfEverySaid :=
  OpenClaim.holds_of_wide 7 Try.f7 rfl rfl rfl rfl rfl rfl rfl ⟨rfl, rfl, rfl, rfl, rfl⟩ rfl rfl rfl rfl rfl (by kernel_rfl) Try.func7 (by kernel_rfl)
    (of_decide_eq_true (by kernel_rfl)) (by unfold Func.isWrapper; first | (rw [if_pos (by decide +kernel)]; kernel_rfl) | (rw [if_neg (by decide +kernel)]; exact ⟨rfl, rfl⟩))
    (fun os started H enc _ => lifted os started H enc)
end Go.Proofs.Ytkmdjhdininimaa.shelfEvery
namespace Go.Proofs.Ytkmdjhdininimaa
theorem shelfEvery_holds : Rows.ShelfEverySaid := shelfEvery.holds
#print axioms shelfEvery_holds
end Go.Proofs.Ytkmdjhdininimaa
