/-
  Proved: from any place of any bytes, numbers, texts, lists and words are read just as the reference reads them, twice, and what came out is the caller's to write into (the law PackReads), for every input.
-/
import Derived.Test.YthkkdbcflfhmaabSame
import Derived.ShutString
import Derived.ChangeOld
namespace Go.Proofs.Ythkkdbcflfhmaab.packReads
open Go.ChangeShapes Go.WideShapes Go.ChangeAt Go.RowKit Go.PlainAid
open Go.ChangeMaps (open_string shut_string)

theorem tkLgo_len (s : ByteArray) : ∀ (n : Nat) (a : Int) (acc : List ByteArray), (tkLgo s n a acc).1.length ≤ n + acc.length
  | 0, a, acc => by simp [tkLgo]
  | n + 1, a, acc => by
    rw [tkLgo]
    split
    · have := tkLgo_len s n (tkT s a).2.1 (acc ++ [(tkT s a).1])
      simp at this
      omega
    · simp
theorem tkL_len (s : ByteArray) (a : Int) : (tkL s a).1.length ≤ 8000 := by
  unfold tkL
  split
  · rename_i hz
    have := tkLgo_len s (tk s a 8000).1.toNat (tk s a 8000).2.1 []
    rcases tk_cases s a 8000 with ⟨n, p, hr, hn, _⟩ | ⟨er, hr, her⟩
    · rw [hr] at this ⊢
      simp at this ⊢
      omega
    · rw [hr] at hz
      simp at hz
      omega
  · simp

theorem reads_below {w w' : World} {v : Value} {xs : List ByteArray} (h : Reads w v xs) (hb : Below w.heap.size w w') : Reads w' v xs := by
  rcases h with h | ⟨b, off, cp, rfl, h⟩
  · exact .inl h
  · exact .inr ⟨b, off, cp, rfl, fun i hi => (hb.cell (World.block_lt_of_cell? w _ (h i hi))).trans (h i hi)⟩

theorem own_shape {w : World} {base e n : Nat} {v : Value} {L : List Value} (h : w.ownsRow base e 1 v n L) : ∃ ao cp, v = .slice ao n cp ∧ (0 < n → ∃ g, ao = some ⟨g, 0, none⟩) := by
  rcases h.2 with ⟨rfl, rfl⟩ | ⟨g, cap, cur, rfl, _⟩
  · exact ⟨none, 0, rfl, fun h => by omega⟩
  · exact ⟨_, cap, rfl, fun _ => ⟨g, rfl⟩⟩

theorem own_below {w w' : World} {base e n : Nat} {v : Value} {L : List Value} (h : w.ownsRow base e 1 v n L) (hb : Below w.heap.size w w') : w'.ownsRow base e 1 v n L :=
  h.kept (row := none) ⟨hb.os, hb.tape, hb.output, hb.size, fun k hk _ => hb.block k hk⟩ (by cases v.ownBlock <;> simp)

theorem below_store {B base n g cp : Nat} {w w1 : World} {L : List Value} (hb : Below B w w1) (ho : w1.ownsRow base 9 1 (.slice (some ⟨g, 0, none⟩) n cp) n L) (hB : B ≤ base) (j : Nat) (u : Value) : Below B w (w1.setCell ⟨g, j, none⟩ u) :=
  hb.setCell (by have := (ho.lt g rfl).1; simp; omega) u

theorem own_cell {base n g cp : Nat} {w1 : World} {L : List Value} (ho : w1.ownsRow base 9 1 (.slice (some ⟨g, 0, none⟩) n cp) n L) {j : Nat} (hj : j < n) : ∃ y, w1.cell? ⟨g, j, none⟩ = some y := by
  rw [ho.cellAt j (by omega)]
  have := ho.1
  exact ⟨L[j]'(by omega), by rw [List.getElem?_eq_getElem (by omega)]⟩

set_option maxRecDepth 100000 in
set_option maxHeartbeats 4000000 in
theorem walk (s : ByteArray) (a : Int) (w : World) (hs : s.size ≤ maxLen) (_ : (Lit.int .i64 a).wf = true) :
    Calls Try.prog 4 #[.string s, .int .i64 a] w fun e w' => e = .returned (.bool true) ∧ Below w.heap.size w w' := by
  obtain ⟨i0, hin, hz0, hz1, hz2⟩ := info_parts Try.info9
  have hlen := tkL_len s a
  have cN := fun W => takeNum_any s a W hs
  have cN' := fun W => refNum_any s a W hs
  have cT := fun W => takeText_any s a W hs
  have cT' := fun W => refText_any s a W hs
  have cW := fun W => takeWord_any s a W hs
  have cW' := fun W => refWord_any s a W hs
  have cL := fun W => takeList_any s a W hs
  have cL' := fun W => refList_any s a W hs
  generalize tk s a 1125899906842624 = r1 at cN cN'
  generalize tkT s a = r2 at cT cT'
  generalize tkW s a = r3 at cW cW'
  generalize tkL s a = r4 at cL cL' hlen
  obtain ⟨x1, x2, x3⟩ := r1
  obtain ⟨y1, y2, y3⟩ := r2
  obtain ⟨z1, z2, z3⟩ := r3
  obtain ⟨xs, l2, l3⟩ := r4
  simp only at cN cN' cT cT' cW cW' cL cL' hlen
  go_enter Try.func4, Try.ntmps4
  go_wp2_with (first | (go_at_call 19; refine (cN _).mono ?_; rintro e w1 ⟨rfl, rfl⟩) | (go_at_call 20; refine (cN' _).mono ?_; rintro e w2 ⟨rfl, rfl⟩) | (go_at_call 21; refine (cT _).mono ?_; rintro e w3 ⟨rfl, hb3⟩) | (go_at_call 22; refine (cT' _).mono ?_; rintro e w4 ⟨rfl, rfl⟩) | (go_at_call 23; refine (cW _).mono ?_; rintro e w5 ⟨rfl, rfl⟩) | (go_at_call 24; refine (cW' _).mono ?_; rintro e w6 ⟨rfl, rfl⟩) | (go_at_call 15; refine (live_any _).mono ?_; rintro e w7 ⟨rfl, hb7⟩) | (go_at_call 25; refine (cL' _).mono ?_; rintro e w8 ⟨v0, rfl, ho8, hb8⟩))
  clear cN cN' cT cT' cW cW' cL'
  have hr0 := reads_own ho8
  go_loopw [26] (fun i wr => ∃ k : Nat, k ≤ 2 ∧ i = .int .i64 (k : Int) ∧ Below w8.heap.size w8 wr) (fun i _ => 2 - (intOf i).toNat)
  case atStart => exact ⟨0, by omega, rfl, Below.refl _ _⟩
  case round =>
    obtain ⟨k, hk, rfl, hbl⟩ := hrel
    by_cases hlt : k < 2
    · go_wp2_with (first | (go_at_call 26; refine (cL _).mono ?_; rintro e w9 ⟨v, rfl, ho9, hb9⟩; obtain ⟨ao, cp, rfl, hao⟩ := own_shape ho9) | (go_at_call 16; refine (same_true _ _ xs _ (by unfold maxLen; omega) (reads_own ho9) (reads_below hr0 (hbl.trans (hb9.mono hbl.size)))).mono ?_; rintro e w10 ⟨rfl, hb10⟩))
      go_loopw [30] (fun i wi => ∃ (j : Nat) (ys : List Value), j ≤ xs.length ∧ i = .int .i64 (j : Int) ∧ wi.ownsRow wr.heap.size 9 1 (.slice ao xs.length cp) xs.length ys ∧ Below wr.heap.size wr wi) (fun i _ => xs.length - (intOf i).toNat)
      case atStart => exact ⟨0, _, by omega, rfl, own_below ho9 hb10, hb9.trans (hb10.mono hb9.size)⟩
      case round =>
        obtain ⟨j, ys, hj, rfl, hown, hbi⟩ := hrel
        by_cases hlj : j < xs.length
        · obtain ⟨g, rfl⟩ := hao (by omega)
          obtain ⟨y, c1⟩ := own_cell hown hlj
          have c2 := hown.frozenAt j
          have R1 := (hown.stored j (.string ⟨#[119, 114, 105, 116, 116, 101, 110]⟩)).1
          have R2 := below_store hbi hown (Nat.le_refl _) j (.string ⟨#[119, 114, 105, 116, 116, 101, 110]⟩)
          clear hown cL
          go_wp2
          go_roundw
          case rel => exact ⟨j + 1, _, by omega, by go_num, R1, R2⟩
          case measure => simp [intOf]; omega
        · have hsz := hbi.size
          have hyl := hown.1
          clear cL
          go_wp2_with (at_builtin; refine wpList_append_own _ rfl (.tmp 161) (.tmp 162) 22 rfl _ 9 i0 (.string ⟨#[]⟩) 1 16 Try.underlying22 hin hz0 hz1 hz2 rfl (by decide) _ _ _ rfl (hown.alloc _) ⟨_, 0, none⟩ 1 1 [.string ⟨#[111, 118, 101, 114]⟩] rfl rfl (one_new _ _ _) (one_one _ rfl) (by unfold maxLen; omega) (by omega) (by simp; omega) ?_; intro v' w11 hown1 hgrow hnil; obtain ⟨g1, cp1, rfl⟩ := own_some hown1; obtain ⟨y, c1⟩ := own_cell hown1 (j := xs.length) (by omega); have c2 := hown1.frozenAt xs.length)
          have R1 := hbl.trans ((below_app (Nat.le_refl _) hbi hown hgrow).mono hbl.size)
          go_roundw
          case rel => exact ⟨k + 1, by omega, by go_num, below_store R1 hown1 hbl.size _ _⟩
          case measure => simp [intOf]; omega
    · go_wp2
      go_ret
      exact ⟨rfl, (((hb3.trans (hb7.mono hb3.size)).trans (hb8.mono (Nat.le_trans hb3.size hb7.size))).trans (hbl.mono (Nat.le_trans (Nat.le_trans hb3.size hb7.size) hb8.size)))⟩

theorem own : ownKnob Try.prog.godebug = none := by kernel_rfl
theorem laidOut : laidOutB Try.prog = true := by kernel_rfl

theorem contract (H : Type) (enc : TypeId × Value → H) (W : World) (base : Nat) (args : Array Value) (ds gs : List (DataW H)) (before : List MemPlace)
    (hval : ∀ (j : Nat) t v, Try.f4.params[j]? = some t → args[j]? = some v → Value.okWide Try.prog W .any base t v)
    (hW : DataW.Whole enc Try.prog Try.f4.params.toList Rows.packReadsSpec.vars false W args.toList ds gs before) :
    Calls Try.prog 4 args W fun e W' => ∃ v, e = .returned v ∧ Rows.packReadsSpec.post enc Try.prog Try.f4 false true false false W args v W' := by
  have hW' := hW
  obtain ⟨p, q, hA0, hV, rfl, hfz, hnd⟩ := hW
  have hA : DataW.TrodAll enc Try.prog W 0 (fun _ => true) true Try.f4.params.toList args.toList ds p := hA0
  rw [Try.params4] at hA hval
  obtain ⟨v0, vs0, d0, ds0, p0, q0, hargs, rfl, rfl, h0, r0⟩ := trodAll_cons hA
  obtain ⟨v1, vs1, d1, ds1, p1, q1, rfl, rfl, rfl, h1, r1⟩ := trodAll_cons r0
  obtain ⟨rfl, rfl, rfl⟩ := trodAll_nil r1
  obtain rfl : args = #[v0, v1] := by cases args; simp_all
  obtain ⟨rfl, rfl⟩ := trodVars_none hV
  have k0 := h0
  have lt0 : ∀ x ∈ p0, x.block < W.heap.size := by obtain ⟨m, hm⟩ := k0; exact DataW.trod_lt m _ _ _ hm
  have k1 := h1
  have lt1 : ∀ x ∈ p1, x.block < W.heap.size := by obtain ⟨m, hm⟩ := k1; exact DataW.trod_lt m _ _ _ hm
  obtain ⟨a0, rfl, rfl, rfl, w0⟩ := open_string Try.underlying9 (hval 0 9 v0 rfl rfl) h0
  obtain ⟨a1, rfl, rfl, rfl, w1⟩ := open_int Try.underlying3 (hval 1 3 v1 rfl rfl) h1
  clear hA0
  simp only [List.append_nil] at hW'
  refine (walk a0 a1 W w0 w1).mono fun e W' ⟨he, bel⟩ => ?_
  subst he
  exact ⟨_, rfl, _, _, _, [], _, [], hW', trodAll_mk1 (shut_bool Try.underlying4 _), (trodAll_cons_mk (Below.trod laidOut (by kernel_rfl) (of_decide_eq_true (by kernel_rfl)) k0 bel lt0) (trodAll_cons_mk (Below.trod laidOut (by kernel_rfl) (of_decide_eq_true (by kernel_rfl)) k1 bel lt1) trodAll_mk0)), rfl, bel.frame _, fun h => by cases h⟩

set_option maxRecDepth 100000 in
theorem lifted (os : Os) (started : os.Started) (H : Type) (enc : TypeId × Value → H) :
    ReturnsInHanded {} Try.checked os 4 .any (Rows.packReadsSpec.pre6 enc Try.prog Try.f4 Rows.packReadsRow.domain false) (Rows.packReadsSpec.post enc Try.prog Try.f4 false true false false) := by
  refine returnsInHanded_of_change (C := Try.checked) own started (by kernel_rfl) Try.func4
    (ChangeSpec.witness6 (enc := enc) (C := Try.checked) false ⟨#[], #[.string .empty, .int .i64 0], []⟩ 8 (by kernel_rfl) (by kernel_rfl) (by kernel_rfl) (by kernel_rfl)) ?_
  intro W base args ds gs before hval hW _ _
  exact contract H enc W base args ds gs before hval hW

theorem holds : Rows.PackReadsSaid :=
  OpenClaim.holds_of_wide 4 Try.f4 rfl rfl rfl rfl rfl rfl rfl ⟨rfl, rfl, rfl, rfl, rfl⟩ rfl rfl rfl rfl rfl (by kernel_rfl) Try.func4 (by kernel_rfl)
    (of_decide_eq_true (by kernel_rfl)) (by unfold Func.isWrapper; first | (rw [if_pos (by decide +kernel)]; kernel_rfl) | (rw [if_neg (by decide +kernel)]; exact ⟨rfl, rfl⟩))
    (fun os started H enc _ => lifted os started H enc)
end Go.Proofs.Ythkkdbcflfhmaab.packReads
namespace Go.Proofs.Ythkkdbcflfhmaab
theorem packReads_holds : Rows.PackReadsSaid := packReads.holds
#print axioms packReads_holds
end Go.Proofs.Ythkkdbcflfhmaab
