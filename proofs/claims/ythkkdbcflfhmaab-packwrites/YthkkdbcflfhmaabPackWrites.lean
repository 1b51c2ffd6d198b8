/-
  Proved: any number, text, list of texts and word are written just as the reference writes them, and the list stays as it was (the law PackWrites), for every input.
-/
import Derived.Test.YthkkdbcflfhmaabRefL
namespace Go.Proofs.Ythkkdbcflfhmaab.packWrites
open Go.ChangeShapes Go.WideShapes Go.ChangeAt Go.RowKit Go.PlainAid
open Go.ChangeMaps (open_string shut_string)

theorem numsW (n : Int) : ∃ (F : ByteArray) (er : Int), (∀ W, Calls Try.prog 9 #[.int .i64 n] W fun e w' => e = .returned (.tuple #[.string F, .int .i64 er]) ∧ Below W.heap.size W w') ∧
    (∀ W, Calls Try.prog 10 #[.int .i64 n] W fun e w' => e = .returned (.tuple #[.string F, .int .i64 er]) ∧ Below W.heap.size W w') := by
  by_cases h : 0 ≤ n ∧ n ≤ 1125899906842624
  · obtain ⟨m, rfl⟩ := Int.eq_ofNat_of_zero_le h.1
    exact ⟨_, _, fun W => num_ok m W (by omega), fun W => refNumW_ok m W (by omega)⟩
  · exact ⟨_, _, fun W => num_no n W (by omega), fun W => refNumW_no n W (by omega)⟩

/-- A list put behind nothing reads as it did. -/
theorem app_list (v : Value) (xs : List ByteArray) (wr : World) (hw : Reads wr v xs) (hx : xs.length * 16 ≤ 140737488351232) (ty : TypeId) :
    ∃ v' w', (Builtin.append_ #[22, 22] ty #[.slice none 0 0, v]).run Try.prog wr = .ok v' w' ∧ Reads w' v' xs ∧ Below wr.heap.size wr w' := by
  obtain ⟨i0, hin, hz0, hz1, hz2⟩ := info_parts Try.info9
  rcases hw with ⟨rfl, ao, cp, rfl⟩ | ⟨b, off, cp, rfl, hc⟩
  · refine ⟨.slice none 0 0, wr, ?_, .inl ⟨rfl, _, _, rfl⟩, Below.refl _ _⟩
    cases ao with
    | none => simp [Builtin.append_, run_underlying Try.underlying22, sizeOf, typeInfo, hin, Builtin.lenOf, Builtin.firstCells]
    | some a => simp [Builtin.append_, run_underlying Try.underlying22, sizeOf, typeInfo, hin, Builtin.lenOf, Builtin.firstCells, loadCells, loadCellsFrom]
  · obtain ⟨v', w', h1, h2, h3, h4⟩ := run_append_own (P := Try.prog) wr wr.heap.size 22 ty 9 i0 (.string ⟨#[]⟩) 1 16 Try.underlying22 hin hz0 hz1 hz2 rfl (by decide) (.slice none 0 0) 0 [] (World.ownsRow_nil _ _ _ _) ⟨b, off, none⟩ xs.length cp (sv xs) (by rw [sv_length, Nat.mul_one])
      (fun j u hj => by
        have hj' : j < xs.length := by
          have := (List.getElem?_eq_some_iff.1 hj).1
          rwa [sv_length] at this
        have hadd : (⟨b, off, none⟩ : Addr).add j = ⟨b, off + j, none⟩ := by unfold Addr.add; split <;> simp_all
        rw [hadd, hc j hj']
        simp [sv, hj'] at hj
        rw [← hj]
        simp [hj'])
      (fun u hu => by simp only [sv, List.mem_map] at hu; obtain ⟨t, _, rfl⟩ := hu; rfl)
      (by unfold maxLen; omega) (by omega) (Nat.le_refl _)
    refine ⟨v', w', h1, ?_, ⟨h3.os, h3.tape, h3.output, h3.size, fun k hk => h3.block k hk (by simp [Value.ownBlock])⟩⟩
    have h5 : w'.ownsRow wr.heap.size 9 1 v' xs.length (sv xs) := by simpa using h2
    exact reads_own h5

theorem wpList_app_list {ops : Array Oper} {rest : List Oper} {o : Oper} {a : Act} {Q : Exit → Act → World → Prop} (wr : World) (hgd : o.guard = none) (sl x : Operand)
    (ho : o.op = .call { callee := .builtin .append, args := #[sl, x], argTypes := #[22, 22] }) (v : Value) (xs : List ByteArray) (hs : a.eval sl = .slice none 0 0) (hx : a.eval x = v)
    (hw : Reads wr v xs) (hxs : xs.length * 16 ≤ 140737488351232)
    (h : ∀ v' w', Reads w' v' xs → Below wr.heap.size wr w' → wpList Try.prog ops Q rest (a.put o.dst v') w') : wpList Try.prog ops Q (o :: rest) a wr := by
  refine wpList_plain hgd fun K hK => ?_
  obtain ⟨v', w', hr, h2, h3⟩ := app_list v xs wr hw hxs o.type
  unfold Oper.wp execOp
  simp only [ho, resolve, invoke, builtin, Sem.run_bind, Sem.run_pure, Result.andThen_ok, List.map_toArray, List.map_cons, List.map_nil, hs, hx, hr]
  exact hK _ _ (h v' w' h2 h3)

set_option maxRecDepth 100000 in
set_option maxHeartbeats 8000000 in
theorem walk (n : Int) (s : ByteArray) (v : Value) (xs : List ByteArray) (x : Int) (w : World) (_ : (Lit.int .i64 n).wf = true) (hs : s.size ≤ maxLen) (hrd : Reads w v xs) (hx : xs.length ≤ maxLen) (hxs : ∀ s ∈ xs, s.size ≤ maxLen) (hrx : xs.length * 16 ≤ 140737488351232) (w3 : (Lit.int .u32 x).wf = true) :
    Calls Try.prog 3 #[.int .i64 n, .string s, v, .int .u32 x] w fun e w' => e = .returned (.bool true) ∧ Below w.heap.size w w' := by
  obtain ⟨b0, b1⟩ := bounds_u32 w3
  obtain ⟨y, rfl⟩ := Int.eq_ofNat_of_zero_le b0
  obtain ⟨F, er, cN, cN'⟩ := numsW n
  have cT := fun W => text_any s W hs
  have cT' := fun W => refTextW_any s W hs
  have cL := fun v W h => list_any v xs W hx h
  have cL' := fun v W h => refListW_any v xs W hx hxs h
  have cW := fun W => word_any y W (by omega)
  have cW' := fun W => refWordW_any y W (by omega)
  generalize textR s = r1 at cT cT'
  generalize listR xs = r2 at cL cL'
  obtain ⟨t1, t2⟩ := r1
  obtain ⟨l1, l2⟩ := r2
  simp only at cT cT' cL cL'
  generalize mk (wordB y) = W4 at cW cW'
  have HX : Hid (∀ s ∈ xs, s.size ≤ maxLen) := hxs
  clear w3 b0 b1 hxs
  go_enter Try.func3, Try.ntmps3
  go_wp2_with (first | (go_at_call 9; refine (cN _).mono ?_; rintro e w1 ⟨rfl, hb1⟩; clear cN) | (go_at_call 10; refine (cN' _).mono ?_; rintro e w2 ⟨rfl, hb2⟩; clear cN') | (go_at_call 11; refine (cT _).mono ?_; rintro e w3 ⟨rfl, hb3⟩; clear cT) | (go_at_call 12; refine (cT' _).mono ?_; rintro e w4 ⟨rfl, hb4⟩; clear cT'; have hc4 := chain (chain (chain hb1 hb2) hb3) hb4) | (at_builtin; refine wpList_app_list _ rfl (.tmp 42) (.tmp 43) rfl v xs rfl rfl (reads_below hrd hc4) hrx ?_; intro v5 w5 hr5 hb5; have hc5 := chain hc4 hb5) | (go_at_call 13; refine (cL _ _ hr5).mono ?_; rintro e w6 ⟨rfl, hb6⟩; clear cL) | (go_at_call 14; refine (cL' _ _ (reads_below hrd (chain hc5 hb6))).mono ?_; rintro e w7 ⟨rfl, hb7⟩; clear cL') | (go_at_call 15; refine (live_any _).mono ?_; rintro e w8 ⟨rfl, hb8⟩) | (go_at_call 16; refine (same_true _ _ xs _ hx (reads_below (reads_below (reads_below hr5 hb6) hb7) hb8) (reads_below hrd (chain (chain (chain hc5 hb6) hb7) hb8))).mono ?_; rintro e w9 ⟨rfl, hb9⟩) | (go_at_call 17; refine (cW _).mono ?_; rintro e w10 ⟨rfl, hb10⟩) | (go_at_call 18; refine (cW' _).mono ?_; rintro e w11 ⟨rfl, hb11⟩))
  go_ret
  exact ⟨rfl, chain (chain (chain (chain (chain (chain hc5 hb6) hb7) hb8) hb9) hb10) hb11⟩

theorem own : ownKnob Try.prog.godebug = none := by kernel_rfl
theorem laidOut : laidOutB Try.prog = true := by kernel_rfl

theorem contract (H : Type) (enc : TypeId × Value → H) (W : World) (base : Nat) (args : Array Value) (ds gs : List (DataW H)) (before : List MemPlace)
    (hval : ∀ (j : Nat) t v, Try.f3.params[j]? = some t → args[j]? = some v → Value.okWide Try.prog W .any base t v)
    (hW : DataW.Whole enc Try.prog Try.f3.params.toList Rows.packWritesSpec.vars false W args.toList ds gs before) (hsz0 : (DataW.weightsEach Try.prog (Try.f3.params.toList ++ Rows.packWritesSpec.plain.varTypes Try.prog) (ds ++ gs)).all (· ≤ reachBytes) = true) :
    Calls Try.prog 3 args W fun e W' => ∃ v, e = .returned v ∧ Rows.packWritesSpec.post enc Try.prog Try.f3 false true false false W args v W' := by
  have hW' := hW
  obtain ⟨p, q, hA0, hV, rfl, hfz, hnd⟩ := hW
  have hA : DataW.TrodAll enc Try.prog W 0 (fun _ => true) true Try.f3.params.toList args.toList ds p := hA0
  rw [Try.params3] at hA hval hsz0
  obtain ⟨v0, vs0, d0, ds0, p0, q0, hargs, rfl, rfl, h0, r0⟩ := trodAll_cons hA
  obtain ⟨v1, vs1, d1, ds1, p1, q1, rfl, rfl, rfl, h1, r1⟩ := trodAll_cons r0
  obtain ⟨v2, vs2, d2, ds2, p2, q2, rfl, rfl, rfl, h2, r2⟩ := trodAll_cons r1
  obtain ⟨v3, vs3, d3, ds3, p3, q3, rfl, rfl, rfl, h3, r3⟩ := trodAll_cons r2
  obtain ⟨rfl, rfl, rfl⟩ := trodAll_nil r3
  obtain rfl : args = #[v0, v1, v2, v3] := by cases args; simp_all
  obtain ⟨rfl, rfl⟩ := trodVars_none hV
  have k0 := h0
  have lt0 : ∀ x ∈ p0, x.block < W.heap.size := by obtain ⟨m, hm⟩ := k0; exact DataW.trod_lt m _ _ _ hm
  have k1 := h1
  have lt1 : ∀ x ∈ p1, x.block < W.heap.size := by obtain ⟨m, hm⟩ := k1; exact DataW.trod_lt m _ _ _ hm
  have k2 := h2
  have lt2 : ∀ x ∈ p2, x.block < W.heap.size := by obtain ⟨m, hm⟩ := k2; exact DataW.trod_lt m _ _ _ hm
  have k3 := h3
  have lt3 : ∀ x ∈ p3, x.block < W.heap.size := by obtain ⟨m, hm⟩ := k3; exact DataW.trod_lt m _ _ _ hm
  obtain ⟨a0, rfl, rfl, rfl, w0⟩ := open_int Try.underlying3 (hval 0 3 v0 rfl rfl) h0
  obtain ⟨a1, rfl, rfl, rfl, w1⟩ := open_string Try.underlying9 (hval 1 9 v1 rfl rfl) h1
  obtain ⟨a2, len2, cap2, rfl⟩ := okWide_slice Try.underlying22 (hval 2 22 v2 rfl rfl)
  obtain ⟨fuel2, hf2⟩ := h2
  obtain ⟨xs2, hr2, hm2, hs2, hd2⟩ := open_strs_as (T := 22) (E := 9) Try.underlying22 Try.underlying9 (by kernel_rfl) hf2
  have z2 : xs2.length * 16 ≤ 140737488351232 := by
    rcases hd2 with rfl | ⟨el, sp, e1, e2⟩
    · simp
    · simp only at e1
      subst e1; subst e2
      have := sized_slice hsz0 (j := 2) (t := 22) (e := 9) rfl rfl Try.underlying22
      rw [show Try.prog.bytesOf 9 = 16 by kernel_rfl] at this
      simp only [strs, List.length_map, reachBytes] at this
      omega
  obtain ⟨a3, rfl, rfl, rfl, w3⟩ := open_int Try.underlying23 (hval 3 23 v3 rfl rfl) h3
  clear hA0
  simp only [List.append_nil] at hW'
  refine (walk a0 a1 (.slice a2 len2 cap2) xs2 a3 W w0 w1 hr2 hm2 hs2 z2 w3).mono fun e W' ⟨he, bel⟩ => ?_
  subst he
  exact ⟨_, rfl, _, _, _, [], _, [], hW', trodAll_mk1 (shut_bool Try.underlying4 _), (trodAll_cons_mk (Below.trod laidOut (by kernel_rfl) (of_decide_eq_true (by kernel_rfl)) k0 bel lt0) (trodAll_cons_mk (Below.trod laidOut (by kernel_rfl) (of_decide_eq_true (by kernel_rfl)) k1 bel lt1) (trodAll_cons_mk (Below.trod laidOut (by kernel_rfl) (of_decide_eq_true (by kernel_rfl)) k2 bel lt2) (trodAll_cons_mk (Below.trod laidOut (by kernel_rfl) (of_decide_eq_true (by kernel_rfl)) k3 bel lt3) trodAll_mk0)))), rfl, bel.frame _, fun h => by cases h⟩

set_option maxRecDepth 100000 in
theorem lifted (os : Os) (started : os.Started) (H : Type) (enc : TypeId × Value → H) :
    ReturnsInHanded {} Try.checked os 3 .any (Rows.packWritesSpec.pre6 enc Try.prog Try.f3 Rows.packWritesRow.domain false) (Rows.packWritesSpec.post enc Try.prog Try.f3 false true false false) := by
  refine returnsInHanded_of_change_sized (C := Try.checked) own started (by kernel_rfl) Try.func3
    (ChangeSpec.witness6 (enc := enc) (C := Try.checked) false ⟨#[], #[.int .i64 0, .string .empty, .slice none 0 0, .int .u32 0], []⟩ 8 (by kernel_rfl) (by kernel_rfl) (by kernel_rfl) (by kernel_rfl)) ?_
  intro W base args ds gs before hval hW _ hsz _
  exact contract H enc W base args ds gs before hval hW hsz

theorem holds : Rows.PackWritesSaid :=
  OpenClaim.holds_of_wide 3 Try.f3 rfl rfl rfl rfl rfl rfl rfl ⟨rfl, rfl, rfl, rfl, rfl⟩ rfl rfl rfl rfl rfl (by kernel_rfl) Try.func3 (by kernel_rfl)
    (of_decide_eq_true (by kernel_rfl)) (by unfold Func.isWrapper; first | (rw [if_pos (by decide +kernel)]; kernel_rfl) | (rw [if_neg (by decide +kernel)]; exact ⟨rfl, rfl⟩))
    (fun os started H enc _ => lifted os started H enc)
end Go.Proofs.Ythkkdbcflfhmaab.packWrites
namespace Go.Proofs.Ythkkdbcflfhmaab
theorem packWrites_holds : Rows.PackWritesSaid := packWrites.holds
#print axioms packWrites_holds
end Go.Proofs.Ythkkdbcflfhmaab
