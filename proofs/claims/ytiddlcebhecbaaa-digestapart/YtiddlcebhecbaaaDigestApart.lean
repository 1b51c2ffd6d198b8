/-
  Proved: unlike numbers stay unlike behind the same bytes, and one byte turned turns the digest (the law DigestApart), for every input.
-/
import Derived.Test.YtiddlcebhecbaaaDigB
import Derived.StillTail
import Derived.StillTactics
namespace Go.Proofs.Ytiddlcebhecbaaa.digestApart
open Go.RowKit Go.ChangeShapes Go.WideShapes Go.ChangeAt Go.PlainAid
open Go.ChangeMaps (open_string shut_string)

theorem Try.mixed : Try.prog.follows .mixedOrders = true := by kernel_rfl

theorem region_tail {P : Program} {id : Nat} {Q : Exit → Act → World → Prop} {a : Act} {w : World} {l : List Oper} (n : Nat) (hm : P.follows .mixedOrders = true) (hB : Region.lexTailB .any l.toArray n = true)
    (h : wpStill P l.toArray w.drew (fun a' => wpList P l.toArray Q (l.drop n) a' w.drew) (l.take n) a) : (Code.region id l.toArray true).wp P Q a w :=
  wp_region_still_tail n hm hB h

/-- '[]byte(s)'. -/
theorem conv_own (w : World) (s : ByteArray) : ∃ cap W, (convert 9 30 (.string s)).run Try.prog w = .ok (.slice (some ⟨w.heap.size, 0, none⟩) s.size cap) W ∧ s.size ≤ cap ∧
    (∀ j (hj : j < s.size), W.cell? ⟨w.heap.size, j, none⟩ = some (.int .u8 (s[j].toNat : Int)) ∧ W.frozen? ⟨w.heap.size, j, none⟩ = false) ∧ Below w.heap.size w W ∧ w.heap.size < W.heap.size := by
  have hg : ∀ cs fr, (w.drew.alloc (.cells cs 5 fr)).heap[w.heap.size]? = some (.cells cs 5 fr) := fun cs fr => by
    show (w.heap.push _)[w.heap.size]? = _
    simp
  refine ⟨_, _, run_bytes_of_string w 9 30 5 s Try.underlying9 Try.underlying30 Try.underlying5, grownCap_ge _ _ _ _, fun j hj => ⟨?_, ?_⟩, (Below.refl _ _).drew.alloc (Nat.le_refl _) _, ?_⟩
  · have hj' : j < s.data.size := hj
    simp only [World.cell?, hg, bytesRow]
    rw [Array.getElem?_append_left (by simpa using hj')]
    rw [Array.getElem?_map, Array.getElem?_eq_getElem hj']
    rfl
  · have hj' : j < s.data.size := hj
    simp only [World.frozen?, hg, bytesRow]
    simp
    omega
  · show w.heap.size < (w.heap.push _).size
    simp

/-- What is behind the turn of one byte. -/
theorem turned {W : World} {g : Nat} {s : ByteArray} (hc : ∀ j (hj : j < s.size), W.cell? ⟨g, j, none⟩ = some (.int .u8 (s[j].toNat : Int))) (q : Nat) (hq : q < s.size) (y : UInt8) (cap : Nat) (U : World) (hU : Below (W.heap.size) (W.setCell ⟨g, q, none⟩ (.int .u8 ((s[q] ^^^ y).toNat : Int))) U) (hg : g < W.heap.size) :
    (convert 30 9 (.slice (some ⟨g, 0, none⟩) s.size cap)).run Try.prog U = .ok (.string (mk (s.data.toList.set q (s[q] ^^^ y)))) U := by
  have hl : (s.data.toList.set q (s[q] ^^^ y)).length = s.size := by rw [List.length_set, Array.length_toList]; rfl
  have h := run_convert_bytes_back (P := Try.prog) U 30 9 5 ⟨g, 0, none⟩ cap (s.data.toList.set q (s[q] ^^^ y)) Try.underlying30 Try.underlying5 Try.underlying9 (fun j hj => by
    have hadd : (⟨g, 0, none⟩ : Addr).add j = ⟨g, j, none⟩ := by unfold Addr.add; split <;> simp_all
    have hj' : j < s.size := by rw [hl] at hj; exact hj
    rw [hadd, hU.cell (p := ⟨g, j, none⟩) hg]
    by_cases e : q = j
    · subst e
      rw [World.cell?_setCell_same _ _ _ (hc q hq), List.getElem_set_self]
    · rw [World.cell?_setCell_other _ _ _ _ (by intro h; simp only [Addr.mk.injEq] at h; omega), hc j hj', List.getElem_set_ne e]
      rfl)
  rw [hl] at h
  exact h

set_option maxRecDepth 20000 in
set_option maxHeartbeats 2000000 in
theorem walk (a b : Int) (s : ByteArray) (at' : Int) (y : Int) (w : World) (ha : (Lit.int .u32 a).wf = true) (hb : (Lit.int .u32 b).wf = true) (hs : s.size ≤ maxLen) (h0 : -9223372036854775808 ≤ at') (h1 : at' ≤ 9223372036854775807) (hy : (Lit.int .u8 y).wf = true) :
    Calls Try.prog 5 #[.int .u32 a, .int .u32 b, .string s, .int .i64 at', .int .u8 y] w fun e w' => e = .returned (.bool true) ∧ Below w.heap.size w w' := by
  obtain ⟨m, rfl⟩ := Int.eq_ofNat_of_zero_le (bounds_u32 ha).1
  obtain ⟨n, rfl⟩ := Int.eq_ofNat_of_zero_le (bounds_u32 hb).1
  obtain ⟨z, rfl⟩ := Int.eq_ofNat_of_zero_le (bounds_u8 hy).1
  have hm : m < 4294967296 := by have := (bounds_u32 ha).2; omega
  have hn : n < 4294967296 := by have := (bounds_u32 hb).2; omega
  have hz : z < 256 := by have := (bounds_u8 hy).2; omega
  clear ha hb hy
  have hs' := hs
  unfold maxLen at hs'
  have cA := fun W => extend_any m s W hm hs
  have cB := fun W => extend_any n s W hn hs
  obtain ⟨o, ho1⟩ : ∃ o : Bool, ((m : Int) == (n : Int)) = o := ⟨_, rfl⟩
  have ho2 : (((ext m s.data.toList : Nat) : Int) == ((ext n s.data.toList : Nat) : Int)) = o := by
    rw [← ho1, Bool.eq_iff_iff]
    simp only [beq_iff_eq]
    refine ⟨fun h => ?_, fun h => ?_⟩
    · have h' : ext m s.data.toList = ext n s.data.toList := by exact_mod_cast h
      rw [ext_inj _ hm hn h']
    · rw [show m = n by omega]
  clear hm hn
  generalize ext m s.data.toList = e1 at *
  generalize ext n s.data.toList = e2 at *
  by_cases hs0 : s.size = 0
  · have hse : s = ⟨#[]⟩ := ByteArray.ext (Array.eq_empty_of_size_eq_zero hs0)
    subst hse
    go_enter Try.func5, Try.ntmps5
    go_wp2_with fail
    refine (cA w).mono ?_
    rintro e w' ⟨rfl, hw⟩
    rw [hw]
    clear hw w' cA
    go_wp2_with fail
    refine (cB w).mono ?_
    rintro e w' ⟨rfl, hw⟩
    rw [hw]
    clear hw w' cB
    go_wp2_with fail
    refine (live_any w).mono ?_
    rintro e w1 ⟨rfl, hb1⟩
    go_wp2
    go_ret
    exact ⟨rfl, hb1⟩
  have hne : s.toList.isEmpty = false := by
    rw [Go.ByteArray.toList_eq, List.isEmpty_eq_false_iff]
    intro h
    have : s.data.toList.length = 0 := by rw [h]; rfl
    rw [Array.length_toList] at this
    exact hs0 this
  by_cases hz0 : z = 0
  · subst hz0
    go_enter Try.func5, Try.ntmps5
    go_wp2_with fail
    refine (cA w).mono ?_
    rintro e w' ⟨rfl, hw⟩
    rw [hw]
    clear hw w' cA
    go_wp2_with fail
    refine (cB w).mono ?_
    rintro e w' ⟨rfl, hw⟩
    rw [hw]
    clear hw w' cB
    go_wp2_with fail
    refine (live_any w).mono ?_
    rintro e w1 ⟨rfl, hb1⟩
    go_wp2
    go_ret
    exact ⟨rfl, hb1⟩
  have hzn : ((z : Int) == 0) = false := by simp; omega
  obtain ⟨cap, W, hcv, hcap, hcell, hbW, hgl⟩ := conv_own w s
  by_cases hng : at' < 0
  · have hlt : at' < 0 := hng
    obtain ⟨p, hp⟩ := Int.eq_ofNat_of_zero_le (show 0 ≤ -(at' + 1) by omega)
    obtain ⟨q, hq⟩ : ∃ q, q = p % s.size := ⟨_, rfl⟩
    have hql : q < s.size := by rw [hq]; exact Nat.mod_lt _ (by omega)
    have hqI : (q : Int) < (s.size : Int) := by omega
    have hsI : (0 : Int) < (s.size : Int) := by omega
    have htm : (p : Int) % (s.size : Int) = (q : Int) := by rw [hq]; rfl
    have htn : (p : Int).tmod (s.size : Int) = (q : Int) := by rw [hq]; rfl
    clear hq
    obtain ⟨c0, f0⟩ := hcell q hql
    have hxo : bits .xor .u8 (s[q].toNat : Int) (z : Int) = ((s[q] ^^^ UInt8.ofNat z).toNat : Int) := by
      rw [u8_xor_nat _ _ (UInt8.toNat_lt _) hz, UInt8.toNat_xor, UInt8.toNat_ofNat', Nat.mod_eq_of_lt (by omega)]
    have hT := ext_turn 2166136261 (by decide) s.data.toList q (by rw [Array.length_toList]; exact hql) (UInt8.ofNat z) (by
      intro h
      have := congrArg UInt8.toNat h
      rw [UInt8.toNat_ofNat', Nat.mod_eq_of_lt (by omega)] at this
      exact hz0 this)
    have hback := fun U hU => turned (W := W.drew) (fun j hj => (hcell j hj).1) q hql (UInt8.ofNat z) cap U hU hgl
    have hbS : Below w.heap.size w (W.drew.setCell ⟨w.heap.size, q, none⟩ (.int .u8 ((s[q] ^^^ UInt8.ofNat z).toNat : Int))) := hbW.drew.setCell (Nat.le_refl _) _
    go_enter Try.func5, Try.ntmps5
    go_wp2_with fail
    refine (cA w).mono ?_
    rintro e w' ⟨rfl, hw⟩
    rw [hw]
    clear hw w' cA
    go_wp2_with fail
    refine (cB w).mono ?_
    rintro e w' ⟨rfl, hw⟩
    rw [hw]
    clear hw w' cB
    go_wp2_with fail
    refine region_tail 15 Try.mixed (by kernel_rfl) ?_
    simp only [List.take_succ_cons, List.take_zero, List.drop_succ_cons, List.drop_zero]
    iterate 15 still_step
    refine wpStill_nil ?_
    have hsz : (W.drew.setCell ⟨w.heap.size, q, none⟩ (.int .u8 ((s[q] ^^^ UInt8.ofNat z).toNat : Int))).heap.size = W.drew.heap.size := by simp [World.setCell]
    have cL := live_any (W.drew.setCell ⟨w.heap.size, q, none⟩ (.int .u8 ((s[q] ^^^ UInt8.ofNat z).toNat : Int)))
    have hS := fun U => sum_any (mk (s.data.toList.set q (s[q] ^^^ UInt8.ofNat z))) U (by
      have : (mk (s.data.toList.set q (s[q] ^^^ UInt8.ofNat z))).size = s.size := by
        show (s.data.toList.set q (s[q] ^^^ UInt8.ofNat z)).toArray.size = s.size
        rw [List.size_toArray, List.length_set, Array.length_toList]
        rfl
      rw [this]; exact hs)
    have hS2 := fun U => sum_any s U hs
    have hT' : (((ext 2166136261 (mk (s.data.toList.set q (s[q] ^^^ UInt8.ofNat z))).data.toList : Nat) : Int) == ((ext 2166136261 s.data.toList : Nat) : Int)) = false := by
      rw [beq_eq_false_iff_ne]
      intro h
      exact hT (by exact_mod_cast h)
    clear hT
    generalize ext 2166136261 (mk (s.data.toList.set q (s[q] ^^^ UInt8.ofNat z))).data.toList = e3 at *
    generalize ext 2166136261 s.data.toList = e4 at *
    generalize mk (s.data.toList.set q (s[q] ^^^ UInt8.ofNat z)) = T at *
    go_wp2_with fail
    refine cL.mono ?_
    rintro e w1 ⟨rfl, hb1⟩
    rw [hsz] at hb1
    have hbk := hback w1 hb1
    have hbF := hbS.trans (hb1.mono (Nat.le_of_lt hgl))
    clear hback hb1 hbS
    go_wp2_with fail
    refine (hS w1).mono ?_
    rintro e w' ⟨rfl, hw⟩
    rw [hw]
    clear hw w' hS
    go_wp2_with fail
    refine (hS2 w1).mono ?_
    rintro e w' ⟨rfl, hw⟩
    rw [hw]
    clear hw w' hS2
    go_wp2
    go_ret
    exact ⟨ret_bool (by simp [bne, hT']), hbF⟩
  · obtain ⟨p, rfl⟩ := Int.eq_ofNat_of_zero_le (show 0 ≤ at' by omega)
    obtain ⟨q, hq⟩ : ∃ q, q = p % s.size := ⟨_, rfl⟩
    have hql : q < s.size := by rw [hq]; exact Nat.mod_lt _ (by omega)
    have hqI : (q : Int) < (s.size : Int) := by omega
    have hsI : (0 : Int) < (s.size : Int) := by omega
    have htm : (p : Int) % (s.size : Int) = (q : Int) := by rw [hq]; rfl
    have htn : (p : Int).tmod (s.size : Int) = (q : Int) := by rw [hq]; rfl
    clear hq
    obtain ⟨c0, f0⟩ := hcell q hql
    have hxo : bits .xor .u8 (s[q].toNat : Int) (z : Int) = ((s[q] ^^^ UInt8.ofNat z).toNat : Int) := by
      rw [u8_xor_nat _ _ (UInt8.toNat_lt _) hz, UInt8.toNat_xor, UInt8.toNat_ofNat', Nat.mod_eq_of_lt (by omega)]
    have hT := ext_turn 2166136261 (by decide) s.data.toList q (by rw [Array.length_toList]; exact hql) (UInt8.ofNat z) (by
      intro h
      have := congrArg UInt8.toNat h
      rw [UInt8.toNat_ofNat', Nat.mod_eq_of_lt (by omega)] at this
      exact hz0 this)
    have hback := fun U hU => turned (W := W.drew) (fun j hj => (hcell j hj).1) q hql (UInt8.ofNat z) cap U hU hgl
    have hbS : Below w.heap.size w (W.drew.setCell ⟨w.heap.size, q, none⟩ (.int .u8 ((s[q] ^^^ UInt8.ofNat z).toNat : Int))) := hbW.drew.setCell (Nat.le_refl _) _
    go_enter Try.func5, Try.ntmps5
    go_wp2_with fail
    refine (cA w).mono ?_
    rintro e w' ⟨rfl, hw⟩
    rw [hw]
    clear hw w' cA
    go_wp2_with fail
    refine (cB w).mono ?_
    rintro e w' ⟨rfl, hw⟩
    rw [hw]
    clear hw w' cB
    go_wp2_with fail
    refine region_tail 15 Try.mixed (by kernel_rfl) ?_
    simp only [List.take_succ_cons, List.take_zero, List.drop_succ_cons, List.drop_zero]
    iterate 15 still_step
    refine wpStill_nil ?_
    have hsz : (W.drew.setCell ⟨w.heap.size, q, none⟩ (.int .u8 ((s[q] ^^^ UInt8.ofNat z).toNat : Int))).heap.size = W.drew.heap.size := by simp [World.setCell]
    have cL := live_any (W.drew.setCell ⟨w.heap.size, q, none⟩ (.int .u8 ((s[q] ^^^ UInt8.ofNat z).toNat : Int)))
    have hS := fun U => sum_any (mk (s.data.toList.set q (s[q] ^^^ UInt8.ofNat z))) U (by
      have : (mk (s.data.toList.set q (s[q] ^^^ UInt8.ofNat z))).size = s.size := by
        show (s.data.toList.set q (s[q] ^^^ UInt8.ofNat z)).toArray.size = s.size
        rw [List.size_toArray, List.length_set, Array.length_toList]
        rfl
      rw [this]; exact hs)
    have hS2 := fun U => sum_any s U hs
    have hT' : (((ext 2166136261 (mk (s.data.toList.set q (s[q] ^^^ UInt8.ofNat z))).data.toList : Nat) : Int) == ((ext 2166136261 s.data.toList : Nat) : Int)) = false := by
      rw [beq_eq_false_iff_ne]
      intro h
      exact hT (by exact_mod_cast h)
    clear hT
    generalize ext 2166136261 (mk (s.data.toList.set q (s[q] ^^^ UInt8.ofNat z))).data.toList = e3 at *
    generalize ext 2166136261 s.data.toList = e4 at *
    generalize mk (s.data.toList.set q (s[q] ^^^ UInt8.ofNat z)) = T at *
    go_wp2_with fail
    refine cL.mono ?_
    rintro e w1 ⟨rfl, hb1⟩
    rw [hsz] at hb1
    have hbk := hback w1 hb1
    have hbF := hbS.trans (hb1.mono (Nat.le_of_lt hgl))
    clear hback hb1 hbS
    go_wp2_with fail
    refine (hS w1).mono ?_
    rintro e w' ⟨rfl, hw⟩
    rw [hw]
    clear hw w' hS
    go_wp2_with fail
    refine (hS2 w1).mono ?_
    rintro e w' ⟨rfl, hw⟩
    rw [hw]
    clear hw w' hS2
    go_wp2
    go_ret
    exact ⟨ret_bool (by simp [bne, hT']), hbF⟩

theorem own : ownKnob Try.prog.godebug = none := by kernel_rfl
theorem laidOut : laidOutB Try.prog = true := by kernel_rfl

set_option maxRecDepth 20000 in
theorem contract (H : Type) (enc : TypeId × Value → H) (W : World) (base : Nat) (args : Array Value) (ds gs : List (DataW H)) (before : List MemPlace)
    (hval : ∀ (j : Nat) t v, Try.f5.params[j]? = some t → args[j]? = some v → Value.okWide Try.prog W .any base t v)
    (hW : DataW.Whole enc Try.prog Try.f5.params.toList Rows.digestApartSpec.vars false W args.toList ds gs before) :
    Calls Try.prog 5 args W fun e W' => ∃ v, e = .returned v ∧ Rows.digestApartSpec.post enc Try.prog Try.f5 false true false false W args v W' := by
  have hW' := hW
  obtain ⟨p, q, hA0, hV, rfl, hfz, hnd⟩ := hW
  have hA : DataW.TrodAll enc Try.prog W 0 (fun _ => true) true Try.f5.params.toList args.toList ds p := hA0
  rw [Try.params5] at hA hval
  obtain ⟨v0, vs0, d0, ds0, p0, q0, hargs, rfl, rfl, h0, r0⟩ := trodAll_cons hA
  obtain ⟨v1, vs1, d1, ds1, p1, q1, rfl, rfl, rfl, h1, r1⟩ := trodAll_cons r0
  obtain ⟨v2, vs2, d2, ds2, p2, q2, rfl, rfl, rfl, h2, r2⟩ := trodAll_cons r1
  obtain ⟨v3, vs3, d3, ds3, p3, q3, rfl, rfl, rfl, h3, r3⟩ := trodAll_cons r2
  obtain ⟨v4, vs4, d4, ds4, p4, q4, rfl, rfl, rfl, h4, r4⟩ := trodAll_cons r3
  obtain ⟨rfl, rfl, rfl⟩ := trodAll_nil r4
  obtain rfl : args = #[v0, v1, v2, v3, v4] := by cases args; simp_all
  obtain ⟨rfl, rfl⟩ := trodVars_none hV
  have k0 := h0
  have lt0 : ∀ x ∈ p0, x.block < W.heap.size := by obtain ⟨m, hm⟩ := k0; exact DataW.trod_lt m _ _ _ hm
  have k1 := h1
  have lt1 : ∀ x ∈ p1, x.block < W.heap.size := by obtain ⟨m, hm⟩ := k1; exact DataW.trod_lt m _ _ _ hm
  have k2 := h2
  have lt2 : ∀ x ∈ p2, x.block < W.heap.size := by obtain ⟨m, hm⟩ := k2; exact DataW.trod_lt m _ _ _ hm
  have k3 := h3
  have lt3 : ∀ x ∈ p3, x.block < W.heap.size := by obtain ⟨m, hm⟩ := k3; exact DataW.trod_lt m _ _ _ hm
  have k4 := h4
  have lt4 : ∀ x ∈ p4, x.block < W.heap.size := by obtain ⟨m, hm⟩ := k4; exact DataW.trod_lt m _ _ _ hm
  obtain ⟨a0, rfl, rfl, rfl, w0⟩ := open_int Try.underlying22 (hval 0 22 v0 rfl rfl) h0
  obtain ⟨a1, rfl, rfl, rfl, w1⟩ := open_int Try.underlying22 (hval 1 22 v1 rfl rfl) h1
  obtain ⟨a2, rfl, rfl, rfl, w2⟩ := open_string Try.underlying9 (hval 2 9 v2 rfl rfl) h2
  obtain ⟨a3, rfl, rfl, rfl, w3⟩ := open_int Try.underlying3 (hval 3 3 v3 rfl rfl) h3
  obtain ⟨a4, rfl, rfl, rfl, w4⟩ := open_int Try.underlying5 (hval 4 5 v4 rfl rfl) h4
  clear hA0
  simp only [List.append_nil] at hW'
  refine (walk a0 a1 a2 a3 a4 W w0 w1 w2 (wf_bd w3).1 (wf_bd w3).2 w4).mono fun e W' ⟨he, bel⟩ => ?_
  subst he
  exact ⟨_, rfl, _, _, _, [], _, [], hW', trodAll_mk1 (shut_bool Try.underlying4 _), (trodAll_cons_mk (Below.trod laidOut (by kernel_rfl) (of_decide_eq_true (by kernel_rfl)) k0 bel lt0) (trodAll_cons_mk (Below.trod laidOut (by kernel_rfl) (of_decide_eq_true (by kernel_rfl)) k1 bel lt1) (trodAll_cons_mk (Below.trod laidOut (by kernel_rfl) (of_decide_eq_true (by kernel_rfl)) k2 bel lt2) (trodAll_cons_mk (Below.trod laidOut (by kernel_rfl) (of_decide_eq_true (by kernel_rfl)) k3 bel lt3) (trodAll_cons_mk (Below.trod laidOut (by kernel_rfl) (of_decide_eq_true (by kernel_rfl)) k4 bel lt4) trodAll_mk0))))), rfl, bel.frame _, fun h => by cases h⟩

set_option maxRecDepth 100000 in
theorem lifted (os : Os) (started : os.Started) (H : Type) (enc : TypeId × Value → H) :
    ReturnsInHanded {} Try.checked os 5 .any (Rows.digestApartSpec.pre6 enc Try.prog Try.f5 Rows.digestApartRow.domain false) (Rows.digestApartSpec.post enc Try.prog Try.f5 false true false false) := by
  refine returnsInHanded_of_change (C := Try.checked) own started (by kernel_rfl) Try.func5
    (ChangeSpec.witness6 (enc := enc) (C := Try.checked) false ⟨#[], #[.int .u32 0, .int .u32 0, .string .empty, .int .i64 0, .int .u8 0], []⟩ 8 (by kernel_rfl) (by kernel_rfl) (by kernel_rfl) (by kernel_rfl)) ?_
  intro W base args ds gs before hval hW _ _
  exact contract H enc W base args ds gs before hval hW

theorem holds : Rows.DigestApartSaid :=
  OpenClaim.holds_of_wide 5 Try.f5 rfl rfl rfl rfl rfl rfl rfl ⟨rfl, rfl, rfl, rfl, rfl⟩ rfl rfl rfl rfl rfl (by kernel_rfl) Try.func5 (by kernel_rfl)
    (of_decide_eq_true (by kernel_rfl)) (by unfold Func.isWrapper; first | (rw [if_pos (by decide +kernel)]; kernel_rfl) | (rw [if_neg (by decide +kernel)]; exact ⟨rfl, rfl⟩))
    (fun os started H enc _ => lifted os started H enc)
end Go.Proofs.Ytiddlcebhecbaaa.digestApart
namespace Go.Proofs.Ytiddlcebhecbaaa
theorem digestApart_holds : Rows.DigestApartSaid := digestApart.holds
#print axioms digestApart_holds
end Go.Proofs.Ytiddlcebhecbaaa
