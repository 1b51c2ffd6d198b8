/-
  Proved: the text of any numbers, or that one is no code point, is what the reference gives, and the numbers are as they were (the law TextTexts), for every input.
-/
import Derived.Test.YthkkdbcflfhmaaaLive
import Derived.ShutString
import Derived.ChangeOld
import Derived.SizedLaws
namespace Go.Proofs.Ythkkdbcflfhmaaa.textTexts
open Go.ChangeShapes Go.WideShapes Go.ChangeAt Go.RowKit Go.PlainAid

/-- What a slice of numbers that came in reads as. -/
theorem open_ints_as {H : Type} {enc : TypeId × Value → H} {P : Program} {w : World} {base : Nat} {spare : Nat → Bool} {held : Bool} {T E : TypeId} {fuel : Nat} {ao : Option Addr} {len cap : Nat} {x : DataW H × List MemPlace}
    (ht : P.underlying T = some (.slice E)) (he : P.underlying E = some (.int .i64)) (hc : P.cellsOf E = 1)
    (h : DataW.trod enc P w base spare held fuel T (Value.slice ao len cap).cells.toList = some x) :
    ∃ xs : List Int, ReadsI w (.slice ao len cap) xs ∧ xs.length ≤ maxLen ∧ (xs = [] ∨ ∃ el sp, x.1 = .slice el sp ∧ el.length = xs.length) := by
  rcases open_ints ht he hc h with ⟨hcs, _⟩ | ⟨a, l, c, ss, hcs, _, hl, hm, hz, hx, hcell, hws⟩
  · simp [Value.cells] at hcs
    obtain ⟨rfl, rfl, rfl⟩ := hcs
    exact ⟨[], .inl ⟨rfl, _, _, rfl⟩, by simp, .inl rfl⟩
  · simp [Value.cells] at hcs
    obtain ⟨rfl, rfl, rfl⟩ := hcs
    have hlen : len ≤ ss.length := by rw [hz]; split <;> omega
    have htl : (ss.take len).length = len := by rw [List.length_take]; omega
    refine ⟨ss.take len, ?_, by rw [htl]; omega, .inr ⟨_, _, by rw [hx], by simp [lits]⟩⟩
    by_cases h0 : len = 0
    · subst h0
      exact .inl ⟨by simp, _, _, rfl⟩
    · obtain ⟨b, off, spot⟩ := a
      have hc0 := hcell 0 (by omega)
      have hspot : spot = none := by simpa [Addr.add] using World.cell?_spot hc0
      subst hspot
      refine .inr ⟨b, off, cap, by rw [htl], fun i hi => ?_⟩
      rw [htl] at hi
      have hci := hcell i (by omega)
      have hadd : (⟨b, off, none⟩ : Addr).add i = ⟨b, off + i, none⟩ := by unfold Addr.add; split <;> simp_all
      rw [hadd] at hci
      rw [hci]
      have e : (ss.take len).getD i 0 = ss.getD i 0 := by
        rw [List.getD_eq_getElem?_getD, List.getElem?_take, if_pos hi, List.getD_eq_getElem?_getD]
      rw [e]

/-- Numbers put behind nothing read as they did. -/
theorem app_ints (v : Value) (xs : List Int) (wr : World) (hw : ReadsI wr v xs) (hx : xs.length * 8 ≤ 140737488351232) (ty : TypeId) :
    ∃ v' w', (Builtin.append_ #[22, 22] ty #[.slice none 0 0, v]).run Try.prog wr = .ok v' w' ∧ ReadsI w' v' xs ∧ Below wr.heap.size wr w' := by
  obtain ⟨i0, hin, hz0, hz1, hz2⟩ := info_parts Try.info3
  rcases hw with ⟨rfl, ao, cp, rfl⟩ | ⟨b, off, cp, rfl, hc⟩
  · refine ⟨.slice none 0 0, wr, ?_, .inl ⟨rfl, _, _, rfl⟩, Below.refl _ _⟩
    cases ao with
    | none => simp [Builtin.append_, run_underlying Try.underlying22, sizeOf, typeInfo, hin, Builtin.lenOf, Builtin.firstCells]
    | some a => simp [Builtin.append_, run_underlying Try.underlying22, sizeOf, typeInfo, hin, Builtin.lenOf, Builtin.firstCells, loadCells, loadCellsFrom]
  · obtain ⟨v', w', h1, h2, h3, h4⟩ := run_append_own (P := Try.prog) wr wr.heap.size 22 ty 3 i0 (.int .i64 0) 1 8 Try.underlying22 hin hz0 hz1 hz2 rfl (by decide) (.slice none 0 0) 0 [] (World.ownsRow_nil _ _ _ _) ⟨b, off, none⟩ xs.length cp (iv xs) (by rw [iv_length, Nat.mul_one])
      (fun j u hj => by
        have hj' : j < xs.length := by
          have := (List.getElem?_eq_some_iff.1 hj).1
          rwa [iv_length] at this
        have hadd : (⟨b, off, none⟩ : Addr).add j = ⟨b, off + j, none⟩ := by unfold Addr.add; split <;> simp_all
        rw [hadd, hc j hj']
        simp [iv, hj'] at hj
        rw [← hj]
        simp [hj'])
      (fun u hu => by simp only [iv, List.mem_map] at hu; obtain ⟨t, _, rfl⟩ := hu; rfl)
      (by unfold maxLen; omega) (by omega) (Nat.le_refl _)
    refine ⟨v', w', h1, ?_, ⟨h3.os, h3.tape, h3.output, h3.size, fun k hk => h3.block k hk (by simp [Value.ownBlock])⟩⟩
    have h5 : w'.ownsRow wr.heap.size 3 1 v' xs.length (iv xs) := by simpa using h2
    exact readsI_own h5

theorem wpList_app_ints {ops : Array Oper} {rest : List Oper} {o : Oper} {a : Act} {Q : Exit → Act → World → Prop} (wr : World) (hgd : o.guard = none) (sl x : Operand)
    (ho : o.op = .call { callee := .builtin .append, args := #[sl, x], argTypes := #[22, 22] }) (v : Value) (xs : List Int) (hs : a.eval sl = .slice none 0 0) (hx : a.eval x = v)
    (hw : ReadsI wr v xs) (hxs : xs.length * 8 ≤ 140737488351232)
    (h : ∀ v' w', ReadsI w' v' xs → Below wr.heap.size wr w' → wpList Try.prog ops Q rest (a.put o.dst v') w') : wpList Try.prog ops Q (o :: rest) a wr := by
  refine wpList_plain hgd fun K hK => ?_
  obtain ⟨v', w', hr, h2, h3⟩ := app_ints v xs wr hw hxs o.type
  unfold Oper.wp execOp
  simp only [ho, resolve, invoke, builtin, Sem.run_bind, Sem.run_pure, Result.andThen_ok, List.map_toArray, List.map_cons, List.map_nil, hs, hx, hr]
  exact hK _ _ (h v' w' h2 h3)

set_option maxHeartbeats 2000000 in
theorem walk (v : Value) (xs : List Int) (w : World) (hrd : ReadsI w v xs) (hx : xs.length ≤ maxLen) (hrx : xs.length * 8 ≤ 140737488351232) :
    Calls Try.prog 4 #[v] w fun e w' => e = .returned (.bool true) ∧ Below w.heap.size w w' := by
  have cT := fun v W h => text_any v xs W (by omega) h
  have cT' := fun v W h => refText_any v xs W (by omega) h
  generalize textR xs = r at cT cT'
  obtain ⟨t1, t2⟩ := r
  simp only at cT cT'
  go_enter Try.func4, Try.ntmps4
  go_wp2_with (first | (at_builtin; refine wpList_app_ints _ rfl (.tmp 8) (.tmp 9) rfl v xs rfl rfl hrd hrx ?_; intro v5 w5 hr5 hb5) | (go_at_call 15; refine (cT _ _ hr5).mono ?_; rintro e w6 ⟨rfl, hb6⟩; clear cT) | (go_at_call 16; refine (cT' _ _ (readsI_below hrd (chain hb5 hb6))).mono ?_; rintro e w7 ⟨rfl, hb7⟩; clear cT') | (go_at_call 11; refine (same_true _ _ xs _ hx (readsI_below (readsI_below hr5 hb6) hb7) (readsI_below hrd (chain (chain hb5 hb6) hb7))).mono ?_; rintro e w8 ⟨rfl, hb8⟩) | (go_at_call 14; refine (live_any _).mono ?_; rintro e w9 ⟨rfl, hb9⟩))
  go_ret
  exact ⟨rfl, chain (chain (chain (chain hb5 hb6) hb7) hb8) hb9⟩

theorem own : ownKnob Try.prog.godebug = none := by kernel_rfl
theorem laidOut : laidOutB Try.prog = true := by kernel_rfl

theorem contract (H : Type) (enc : TypeId × Value → H) (W : World) (base : Nat) (args : Array Value) (ds gs : List (DataW H)) (before : List MemPlace)
    (hval : ∀ (j : Nat) t v, Try.f4.params[j]? = some t → args[j]? = some v → Value.okWide Try.prog W .any base t v)
    (hW : DataW.Whole enc Try.prog Try.f4.params.toList Rows.textTextsSpec.vars false W args.toList ds gs before) (hsz0 : (DataW.weightsEach Try.prog (Try.f4.params.toList ++ Rows.textTextsSpec.plain.varTypes Try.prog) (ds ++ gs)).all (· ≤ reachBytes) = true) :
    Calls Try.prog 4 args W fun e W' => ∃ v, e = .returned v ∧ Rows.textTextsSpec.post enc Try.prog Try.f4 false true false false W args v W' := by
  have hW' := hW
  obtain ⟨p, q, hA0, hV, rfl, hfz, hnd⟩ := hW
  have hA : DataW.TrodAll enc Try.prog W 0 (fun _ => true) true Try.f4.params.toList args.toList ds p := hA0
  rw [Try.params4] at hA hval hsz0
  obtain ⟨v0, vs0, d0, ds0, p0, q0, hargs, rfl, rfl, h0, r0⟩ := trodAll_cons hA
  obtain ⟨rfl, rfl, rfl⟩ := trodAll_nil r0
  obtain rfl : args = #[v0] := by cases args; simp_all
  obtain ⟨rfl, rfl⟩ := trodVars_none hV
  have k0 := h0
  have lt0 : ∀ x ∈ p0, x.block < W.heap.size := by obtain ⟨m, hm⟩ := k0; exact DataW.trod_lt m _ _ _ hm
  obtain ⟨a0, len0, cap0, rfl⟩ := okWide_slice Try.underlying22 (hval 0 22 v0 rfl rfl)
  obtain ⟨fuel0, hf0⟩ := h0
  obtain ⟨xs0, hr0, hm0, hd0⟩ := open_ints_as (T := 22) (E := 3) Try.underlying22 Try.underlying3 (by kernel_rfl) hf0
  have z0 : xs0.length * 8 ≤ 140737488351232 := by
    rcases hd0 with rfl | ⟨el, sp, e1, e2⟩
    · simp
    · simp only at e1
      subst e1
      have := sized_slice hsz0 (j := 0) (t := 22) (e := 3) rfl rfl Try.underlying22
      rw [show Try.prog.bytesOf 3 = 8 by kernel_rfl] at this
      simp only [reachBytes] at this
      omega
  clear hA0
  simp only [List.append_nil] at hW'
  refine (walk (.slice a0 len0 cap0) xs0 W hr0 hm0 z0).mono fun e W' ⟨he, bel⟩ => ?_
  subst he
  exact ⟨_, rfl, _, _, _, [], _, [], hW', trodAll_mk1 (shut_bool Try.underlying4 _), (trodAll_cons_mk (Below.trod laidOut (by kernel_rfl) (of_decide_eq_true (by kernel_rfl)) k0 bel lt0) trodAll_mk0), rfl, bel.frame _, fun h => by cases h⟩

set_option maxRecDepth 100000 in
theorem lifted (os : Os) (started : os.Started) (H : Type) (enc : TypeId × Value → H) :
    ReturnsInHanded {} Try.checked os 4 .any (Rows.textTextsSpec.pre6 enc Try.prog Try.f4 Rows.textTextsRow.domain false) (Rows.textTextsSpec.post enc Try.prog Try.f4 false true false false) := by
  refine returnsInHanded_of_change_sized (C := Try.checked) own started (by kernel_rfl) Try.func4
    (ChangeSpec.witness6 (enc := enc) (C := Try.checked) false ⟨#[], #[.slice none 0 0], []⟩ 8 (by kernel_rfl) (by kernel_rfl) (by kernel_rfl) (by kernel_rfl)) ?_
  intro W base args ds gs before hval hW _ hsz _
  exact contract H enc W base args ds gs before hval hW hsz

theorem holds : Rows.TextTextsSaid :=
  OpenClaim.holds_of_wide 4 Try.f4 rfl rfl rfl rfl rfl rfl rfl ⟨rfl, rfl, rfl, rfl, rfl⟩ rfl rfl rfl rfl rfl (by kernel_rfl) Try.func4 (by kernel_rfl)
    (of_decide_eq_true (by kernel_rfl)) (by unfold Func.isWrapper; first | (rw [if_pos (by decide +kernel)]; kernel_rfl) | (rw [if_neg (by decide +kernel)]; exact ⟨rfl, rfl⟩))
    (fun os started H enc _ => lifted os started H enc)
end Go.Proofs.Ythkkdbcflfhmaaa.textTexts
namespace Go.Proofs.Ythkkdbcflfhmaaa
theorem textTexts_holds : Rows.TextTextsSaid := textTexts.holds
#print axioms textTexts_holds
end Go.Proofs.Ythkkdbcflfhmaaa
