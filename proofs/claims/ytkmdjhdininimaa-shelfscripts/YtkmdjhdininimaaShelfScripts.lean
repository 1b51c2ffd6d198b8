/-
  Proved: whatever is put, cut off and crashed, a shelf has the text of its last Put that answered OK, or, wholly, that of one which was cut off (the law ShelfScripts), for every input.
-/
import Derived.Test.YtkmdjhdininimaaSsD
import Derived.Deep.CutBlock
namespace Go.Proofs.Ytkmdjhdininimaa
open Go.RowKit Go.Maps
theorem crF_fuse (s : DevS) (f : Int) (m : List UInt8) : ∀ k, crF { s with fuse := f } m k = crF s m k
  | 0 => rfl
  | k + 1 => by
    unfold crF
    rw [crF_fuse s f m k]
    rfl
theorem crashed_fuse (s : DevS) (f : Int) (m : List UInt8) : DevS.crashed { s with fuse := f } m = s.crashed m := by
  unfold DevS.crashed
  rw [crF_fuse]
  rfl
/-- A fuse is set. -/
theorem Kept.fuse {P : PD} (h : Kept P) (h8 : 8 ≤ P.s.n) (f : Int) : Mid { P with s := { P.s with fuse := f } } := by
  have hsf : Safe { P with s := { P.s with fuse := f } } := fun m => by
    obtain ⟨t, h1, h2⟩ := h.safe h8 m
    exact ⟨t, h1, by show Says (DevS.crashed { P.s with fuse := f } m) _; rw [crashed_fuse]; exact h2⟩
  rcases h with h | h
  · by_cases hf : f = 0
    · subst hf
      exact .inr ⟨hsf, .inl rfl⟩
    · exact .inl ⟨h.lost, by show ({ P.s with fuse := f } : DevS).up = true; unfold DevS.up; simpa using hf, h.age, h.dead, h.calm, says_fuseS h.says f, h.late⟩
  · exact .inr ⟨hsf, .inr ⟨h.lost, h.dead⟩⟩
theorem Kept.mid {P : PD} (h : Kept P) : Mid P := by
  rcases h with h | h
  · exact .inl h
  · exact .inr ⟨h.safe, .inr ⟨h.lost, h.dead⟩⟩
end Go.Proofs.Ytkmdjhdininimaa
namespace Go.Proofs.Ytkmdjhdininimaa.shelfScripts
open Go.RowKit Go.Maps Go.ChangeShapes Go.WideShapes Go.ChangeAt Go.PlainAid

set_option maxRecDepth 20000 in
set_option maxHeartbeats 1000000 in
theorem walk (c : Int) (v : Value) (ops : List OpX) (w : World) (hc0 : -9223372036854775808 ≤ c) (hc1 : c ≤ 9223372036854775807) (hv : RdX w v ops) (hl : ops.length ≤ 2600000000000) (hok : ∀ o ∈ ops, o.Ok w) :
    Calls Try.prog 4 #[.int .i64 c, v] w fun e w' => e = .returned (.bool true) ∧ Below w.heap.size w w' := by
  obtain ⟨ao, cp, rfl, hvc⟩ := hv
  have cK := pick_any c 200 w hc0 hc1 (by omega) (by omega)
  have hpb := pickI_bd c 200 (by omega)
  generalize pickI c 200 = n0 at *
  obtain ⟨n, hn0⟩ : ∃ n : Nat, n0 = (n : Int) := ⟨n0.toNat, by omega⟩
  subst hn0
  have cN := ndev_any w w (Below.refl _ _) (8 + n) (by omega) (by omega)
  rw [show ((8 + n : Nat) : Int) = 8 + (n : Int) by omega] at cN
  have Hok : Hid (∀ o ∈ ops, o.Ok w) := hok
  have Hvc : Hid (∀ (i : Nat) (o : OpX), ops[i]? = some o → ∃ b off, ao = some ⟨b, off, none⟩ ∧ b < w.heap.size ∧ w.cell? ⟨b, off + i * 4, none⟩ = some (.int .i64 o.d) ∧ w.cell? ⟨b, off + i * 4 + 1, none⟩ = some (.int .i64 o.n) ∧ w.cell? ⟨b, off + i * 4 + 2, none⟩ = some (.string o.x) ∧ w.cell? ⟨b, off + i * 4 + 3, none⟩ = some o.vc) := hvc
  clear hok hvc
  go_enter Try.func4, Try.ntmps4
  go_wp2_with fail
  refine cK.mono ?_
  rintro e w0 ⟨rfl, rfl⟩
  go_wp2_with fail
  refine cN.mono ?_
  rintro e w1 ⟨p, bs, bw, rfl, hD1, -, -⟩
  clear cN cK
  have cW := lv_new hD1
  go_wp2_with fail
  refine cW.mono ?_
  rintro e w2 ⟨q, rfl, hS2, -, -⟩
  clear cW hD1
  have cB := begun_any w2
  go_wp2_with fail
  refine cB.mono ?_
  rintro e w3 ⟨rfl, hb3⟩
  have hS3 := hS2.below hb3
  clear cB hS2 hb3
  have cR := lv_room hS3
  obtain ⟨r, Hr⟩ : ∃ r, Hid ((newS (8 + n)).room = r) := ⟨_, rfl⟩
  rw [Hr.out] at cR
  go_wp2_with fail
  refine cR.mono ?_
  rintro e w4 ⟨rfl, hS4, -⟩
  clear cR hS3
  have hS5 := hS4.below (W' := w4.alloc (.cells #[.pointer (some ⟨p, 0, none⟩), .pointer (some ⟨q, 0, none⟩), .string ⟨#[]⟩, .int .i64 (r : Int), .slice none 0 0, .bool false] 44)) ((Below.refl _ _).alloc (Nat.le_refl _) _)
  have hP5 : IsPr w0 _ w4.heap.size p bs bw { q := q, s := newS (8 + n), age := (newS (8 + n)).age, dead := false, text := ⟨#[]⟩, room := r, lv := .slice none 0 0, late := [], lost := false } := ⟨hS5.toNS, heap_alloc_last w4 _, hS4.b.size, World.ownsRow_nil _ _ _ _, Hr.out⟩
  have hK5 : Kept { q := q, s := newS (8 + n), age := (newS (8 + n)).age, dead := false, text := ⟨#[]⟩, room := r, lv := .slice none 0 0, late := [], lost := false } := .inl ⟨rfl, rfl, rfl, rfl, hS5.calm, hS5.says, ⟨rfl, rfl⟩⟩
  clear hS4 hS5
  obtain ⟨b, Hb⟩ : ∃ b, Hid (w4.heap.size = b) := ⟨_, rfl⟩
  go_wp2_with fail
  rw [Hb.out]
  rw [Hb.out] at hP5
  go_loopw [10] (fun i wr => ∃ (k : Nat) (P : PD), k ≤ ops.length ∧ i = .int .i64 (k : Int) ∧ IsPr w0 wr b p bs bw P ∧ Kept P) (fun i _ => ops.length - (intOf i).toNat)
  case atStart => exact ⟨0, _, by omega, rfl, hP5, hK5⟩
  case round =>
    clear hP5 hK5
    obtain ⟨k, P, hk, rfl, hP, hK⟩ := hrel
    by_cases hlt : k < ops.length
    · have hlt' : (k : Int) < (ops.length : Int) := by omega
      have hgo : ops[k]? = some ops[k] := by simp [hlt]
      have ho := Hok.out ops[k] (List.getElem_mem hlt)
      obtain ⟨cb, off, rfl, hcl, g0, g1, g2, g3⟩ := Hvc.out k ops[k] hgo
      clear hgo
      generalize ops[k] = o at *
      obtain ⟨od, on, ox, ovc, oc⟩ := o
      obtain ⟨n0, n1, x1, cr, cbd⟩ := ho
      simp only at g0 g1 g2 g3 n0 n1 x1 cr cbd
      have hcell : ∀ y, wr.cell? ⟨cb, y, none⟩ = w0.cell? ⟨cb, y, none⟩ := fun y => hP.b.cell (p := ⟨cb, y, none⟩) hcl
      rw [← hcell] at g0 g1 g2 g3
      obtain ⟨ca, cq, hvc', -⟩ := id cr
      subst hvc'
      clear hcell
      have hPx := hP.below (W' := wr.alloc (.cells #[.int .i64 od, .int .i64 on, .string ox, .slice ca oc.length cq] 46)) ((Below.refl _ _).alloc (Nat.le_refl _) _)
      have hox := heap_alloc_last wr (.cells #[.int .i64 od, .int .i64 on, .string ox, .slice ca oc.length cq] 46)
      clear hP
      go_upto_block 2 with fail
      go_cut [12] (fun ok wx => ok = .bool true ∧ ∃ P', IsPr w0 wx b p bs bw P' ∧ Mid P')
      case first =>
        clear g0 g1 g2 g3
        obtain ⟨X, hX⟩ : ∃ X, Hid (X = wr.alloc (.cells #[.int .i64 od, .int .i64 on, .string ox, .slice ca oc.length cq] 46)) := ⟨_, rfl⟩
        rw [← hX.out] at hPx hox ⊢
        have hPd := hPx.below (Below.drew (Below.refl _ X))
        have hod : X.drew.heap[wr.heap.size]? = some (.cells #[.int .i64 od, .int .i64 on, .string ox, .slice ca oc.length cq] 46) := hox
        have f0 := cell_at hox 0
        have f1 := cell_at hod 1
        have f2 := cell_at hod 2
        have f2' := cell_at hox 2
        have f3' := cell_at hox 3
        simp at f0 f1 f2 f2' f3'
        by_cases h0 : od = 0
        · subst h0
          have cS := short_any ox X.drew x1
          have hsl := short_le ox
          generalize (if 2000 < ox.size then ox.extract 0 2000 else ox) = y at *
          have cK := pick_any on 300 X.drew n0 n1 (by omega) (by omega)
          have hpk := pickI_bd on 300 (by omega)
          generalize pickI on 300 = f at *
          obtain ⟨fn, hfn⟩ : ∃ fn : Nat, f = (fn : Int) := ⟨f.toNat, by omega⟩
          subst hfn
          have cO := often_any y fn X.drew hsl (by omega)
          clear hX
          go_upto_region 13 with fail
          go_region_with (first
            | (go_at_call 21; refine cS.mono ?_; rintro e w7 ⟨rfl, rfl⟩)
            | (go_at_call 8; refine cK.mono ?_; rintro e w8 ⟨rfl, rfl⟩)
            | (go_at_call 20; refine cO.mono ?_; rintro e w5 ⟨⟨z, rfl, hz⟩, hb5⟩; have cP := puts_any (hPd.below hb5) hK z hz)
            | (go_at_call 19; refine cP.mono ?_; rintro e w6 ⟨rfl, P', hP', hM', -⟩))
          all_goals
            go_wp2_with fail
            go_meet
            exact ⟨rfl, P', hP', hM'⟩
        · have h0' : (od == 0) = false := by simpa using h0
          by_cases h1 : od = 1
          · subst h1
            have cK := pick_any on 120 X.drew n0 n1 (by omega) (by omega)
            have hpk := pickI_bd on 120 (by omega)
            generalize pickI on 120 = f at *
            have q0 := hPd.cells.1
            have cF := fuse_ok hPd.dev (-1 + f) (by omega) (by omega)
            clear hX
            go_upto_region 15 with fail
            refine region_tail 8 Try.mixed (by kernel_rfl) ?_
            simp only [List.take_succ_cons, List.take_zero, List.drop_succ_cons, List.drop_zero]
            iterate 6 still_step
            still_call cK
            still_step
            refine wpStill_nil ?_
            go_wp2_with (go_at_call 13; refine cF.mono ?_; rintro e w4 ⟨rfl, hd4, ho4⟩)
            have h4 := hPd.turn ⟨hPd.toND.only hd4 ho4 (by have := hPd.lp; simpa using this), hPd.sh.only ho4 (by have := hPd.sh.apart hPd.dev; simp at this; simp [this.1]), hPd.lq⟩ (ho4.mono (by simp)) rfl
            go_meet
            exact ⟨rfl, _, h4, hK.fuse hPd.dev.lo _⟩
          · have h1' : (od == 1) = false := by simpa using h1
            by_cases h2 : od = 2
            · subst h2
              have cC := crashes_any hPx hK ox x1 _ oc cr cbd
              clear hX
              go_wp2_with (go_at_call 22; refine cC.mono ?_; rintro e w6 ⟨rfl, P', hP', hM', -⟩)
              go_meet
              exact ⟨rfl, P', hP', hM'⟩
            · have h2' : (od == 2) = false := by simpa using h2
              clear hX
              go_wp2_with fail
              go_meet
              exact ⟨rfl, P, hPx, hK.mid⟩
      case rest =>
        obtain ⟨rfl, P', hP', hM'⟩ := hcut
        have cL := looks_any hP' hM'
        clear hPx hox hK cr cbd
        go_wp2_with fail
        refine cL.mono ?_
        rintro e w6 ⟨rfl, P6, hP6, hK6, -⟩
        clear cL hP'
        go_wp2_with fail
        go_roundw
        case rel => exact ⟨k + 1, P6, by omega, by go_num, hP6, hK6⟩
        case measure => simp [intOf]; omega
    · have hlt' : ¬ (k : Int) < (ops.length : Int) := by omega
      go_wp2_with fail
      go_ret
      exact ⟨rfl, hP.b⟩
theorem own : ownKnob Try.prog.godebug = none := by kernel_rfl
theorem laidOut : laidOutB Try.prog = true := by kernel_rfl

set_option maxRecDepth 20000 in
theorem contract (H : Type) (enc : TypeId × Value → H) (W : World) (base : Nat) (args : Array Value) (ds gs : List (DataW H)) (before : List MemPlace)
    (hval : ∀ (j : Nat) t v, Try.f4.params[j]? = some t → args[j]? = some v → Value.okWide Try.prog W .any base t v)
    (hW : DataW.Whole enc Try.prog Try.f4.params.toList Rows.shelfScriptsSpec.vars false W args.toList ds gs before) (hsz0 : (DataW.weightsEach Try.prog (Try.f4.params.toList ++ Rows.shelfScriptsSpec.plain.varTypes Try.prog) (ds ++ gs)).all (· ≤ reachBytes) = true) :
    Calls Try.prog 4 args W fun e W' => ∃ v, e = .returned v ∧ Rows.shelfScriptsSpec.post enc Try.prog Try.f4 false true false false W args v W' := by
  have hW' := hW
  obtain ⟨p, q, hA0, hV, rfl, hfz, hnd⟩ := hW
  have hA : DataW.TrodAll enc Try.prog W 0 (fun _ => true) true Try.f4.params.toList args.toList ds p := hA0
  rw [Try.params4] at hA hval hsz0
  obtain ⟨v0, vs0, d0, ds0, p0, q0, hargs, rfl, rfl, h0, r0⟩ := trodAll_cons hA
  obtain ⟨v1, vs1, d1, ds1, p1, q1, rfl, rfl, rfl, h1, r1⟩ := trodAll_cons r0
  obtain ⟨rfl, rfl, rfl⟩ := trodAll_nil r1
  obtain rfl : args = #[v0, v1] := by cases args; simp_all
  obtain ⟨rfl, rfl⟩ := trodVars_none hV
  have k0 := h0
  have lt0 : ∀ x ∈ p0, x.block < W.heap.size := by obtain ⟨m, hm⟩ := k0; exact DataW.trod_lt m _ _ _ hm
  have k1 := h1
  have lt1 : ∀ x ∈ p1, x.block < W.heap.size := by obtain ⟨m, hm⟩ := k1; exact DataW.trod_lt m _ _ _ hm
  obtain ⟨a0, rfl, rfl, rfl, w0⟩ := open_int Try.underlying3 (hval 0 3 v0 rfl rfl) h0
  obtain ⟨a1, len1, cap1, rfl⟩ := okWide_slice Try.underlying40 (hval 1 40 v1 rfl rfl)
  obtain ⟨fuel1, hf1⟩ := h1
  have z1 : ∀ n ∈ d1.weights Try.prog 40, n ≤ reachBytes := fun n hn => by simpa using List.all_eq_true.1 hsz0 n (DataW.weights_mem_each (j := 1) (t := 40) (d := d1) rfl rfl n hn)
  obtain ⟨l1, rd1, ln1, ok1⟩ := open_opxs hf1 z1
  clear hA0
  simp only [List.append_nil] at hW'
  refine (walk a0 (.slice a1 len1 cap1) l1 W (wf_bd w0).1 (wf_bd w0).2 rd1 ln1 ok1).mono fun e W' ⟨he, bel⟩ => ?_
  subst he
  exact ⟨_, rfl, _, _, _, [], _, [], hW', trodAll_mk1 (shut_bool Try.underlying4 _), (trodAll_cons_mk (Below.trod laidOut (by kernel_rfl) (of_decide_eq_true (by kernel_rfl)) k0 bel lt0) (trodAll_cons_mk (Below.trod laidOut (by kernel_rfl) (of_decide_eq_true (by kernel_rfl)) k1 bel lt1) trodAll_mk0)), rfl, bel.frame _, fun h => by cases h⟩

set_option maxRecDepth 100000 in
theorem lifted (os : Os) (started : os.Started) (H : Type) (enc : TypeId × Value → H) :
    ReturnsInHanded {} Try.checked os 4 .any (Rows.shelfScriptsSpec.pre6 enc Try.prog Try.f4 Rows.shelfScriptsRow.domain false) (Rows.shelfScriptsSpec.post enc Try.prog Try.f4 false true false false) := by
  refine returnsInHanded_of_change_sized (C := Try.checked) own started (by kernel_rfl) Try.func4
    (ChangeSpec.witness6 (enc := enc) (C := Try.checked) false ⟨#[], #[.int .i64 0, .slice none 0 0], []⟩ 8 (by kernel_rfl) (by kernel_rfl) (by kernel_rfl) (by kernel_rfl)) ?_
  intro W base args ds gs before hval hW _ hsz _
  exact contract H enc W base args ds gs before hval hW hsz

theorem holds : Rows.ShelfScriptsSaid :=
  OpenClaim.holds_of_wide 4 Try.f4 rfl rfl rfl rfl rfl rfl rfl ⟨rfl, rfl, rfl, rfl, rfl⟩ rfl rfl rfl rfl rfl (by kernel_rfl) Try.func4 (by kernel_rfl)
    (of_decide_eq_true (by kernel_rfl)) (by unfold Func.isWrapper; first | (rw [if_pos (by decide +kernel)]; kernel_rfl) | (rw [if_neg (by decide +kernel)]; exact ⟨rfl, rfl⟩))
    (fun os started H enc _ => lifted os started H enc)
end Go.Proofs.Ytkmdjhdininimaa.shelfScripts
namespace Go.Proofs.Ytkmdjhdininimaa
theorem shelfScripts_holds : Rows.ShelfScriptsSaid := shelfScripts.holds
#print axioms shelfScripts_holds
end Go.Proofs.Ytkmdjhdininimaa
