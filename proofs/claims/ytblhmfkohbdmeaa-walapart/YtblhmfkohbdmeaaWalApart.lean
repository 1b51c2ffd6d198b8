/-
  Proved: journals on two devices know nothing of one another (the law WalApart), for every input.
-/
import Derived.Test.YtblhmfkohbdmeaaWLawT
import Derived.Test.YtblhmfkohbdmeaaWArgX
namespace Go.Proofs.Ytblhmfkohbdmeaa.walApart
open Go.RowKit Go.Maps Go.ChangeShapes Go.WideShapes Go.ChangeAt Go.PlainAid

theorem put_take (l : List WrD) (x : Nat → Sec) (j : Nat) (h : j < l.length) (i : Nat) : put (l.take (j + 1)) x i = if i = l[j].k.toNat then l[j].x.data.toList else put (l.take j) x i := by
  rw [List.take_add_one, List.getElem?_eq_getElem h, Option.toList_some, put_snoc]

set_option maxRecDepth 20000 in
set_option maxHeartbeats 8000000 in
theorem walk (v : Value) (ops : List OpX) (vk : Value) (l : List WrD) (w : World) (hv : RdX w v ops) (hl : ops.length ≤ 1900000000000) (hok : ∀ o ∈ ops, o.Ok w) (hvk : RdWr w vk l) (hll : l.length ≤ 5864062014800) (hlo : ∀ o ∈ l, o.Ok) :
    Calls Try.prog 6 #[v, vk] w fun e w' => e = .returned (.bool true) ∧ Below w.heap.size w w' := by
  obtain ⟨ao, cp, rfl, _⟩ := id hv
  obtain ⟨aoK, cpK, rfl, ⟨hcpK, hnnK⟩, _⟩ := id hvk
  have HVK : Hid (∀ W, Below w.heap.size w W → RdWr W (.slice aoK l.length cpK) l) := fun W h => hvk.below h rfl
  have hllM : l.length ≤ maxLen := by unfold maxLen; omega
  have HLO : Hid (∀ o ∈ l, o.Ok) := hlo
  have HG : Hid (∀ (W : World) (P A : PA) (s : DevS) (x : Nat → Sec) (B : Nat), B ≤ 1900000000001 → After w W P B → (∀ g ∈ [A.q, A.r, A.p, A.bs, A.bw], g ∉ [P.q, P.r, P.p, P.bs, P.bw, P.gm]) → IsQ W A s x → Calls Try.prog 24 #[.pointer (some ⟨P.q, 0, none⟩), .slice ao ops.length cp] W fun e w' => e = .returned (.bool true) ∧ ∃ P', P'.q = P.q ∧ After w w' P' (B + ops.length) ∧ (∀ g ∈ [A.q, A.r, A.p, A.bs, A.bw], g ∉ [P'.q, P'.r, P'.p, P'.bs, P'.bw, P'.gm]) ∧ IsQ w' A s x) :=
    fun W P A s x B hB h hd hQ => goes_beside (stOK w) h hd hQ hv hok (by omega)
  clear hv hok hvk hlo
  have cM := made_any 20 w (by omega) (by omega)
  go_enter Try.func6, Try.ntmps6
  go_wp2_with fail
  refine cM.mono ?_
  rintro e w1 ⟨P, n1, rfl, hP⟩
  have cM2 := made_any 20 w1 (by omega) (by omega)
  clear cM
  go_wp2_with fail
  refine cM2.mono ?_
  rintro e w2 ⟨A, n2, rfl, hA⟩
  have hQ := IsQ.of hA
  have hP2 := hP.below hA.b
  have hdj : ∀ g ∈ [A.q, A.r, A.p, A.bs, A.bw], g ∉ [P.q, P.r, P.p, P.bs, P.bw, P.gm] := fun g hg hm => by
    have h1 := hP.lts g hm
    have h2 : w1.heap.size ≤ g := by
      have := hA.lq
      have := hA.lr
      have := hA.lp
      have := hA.ls
      have := hA.lw
      simp at hg
      omega
    omega
  have HLA : Hid (∀ g ∈ [A.r, A.p, A.bs, A.bw], w.heap.size ≤ g) := fun g hg => by
    have := hP.b.size
    have := hA.lr
    have := hA.lp
    have := hA.ls
    have := hA.lw
    simp at hg
    omega
  have hN8 : A.N ≤ 8192 := by have := hA.dev.hi; have := hA.n; omega
  have hN8' : (A.N : Int) ≤ 8192 := by omega
  have hcapA := hA.cap
  have cG := HG.out w2 P A _ _ 1 (by omega) (made_after hP2) hdj hQ
  clear cM2 hP hA hQ hP2 hdj
  obtain ⟨q0, r0, p0, bs0, bw0, gm0, cp0, N0, K0⟩ := P
  go_wp2_with fail
  refine cG.mono ?_
  rintro e w3 ⟨rfl, P1, hq1, hAf3, hd3, hQ3⟩
  subst hq1
  clear cG
  have hB3 : Below w.heap.size w w3 := by
    obtain ⟨_, _, _, _, _, h1, _⟩ := hAf3
    exact h1.b
  obtain ⟨c1, c2⟩ := hQ3.cells
  have cW := wrong_any A.N hN8 (HVK.out w3 hB3) hllM HLO.out
  go_wp2_with fail
  refine cW.mono ?_
  rintro e w4 ⟨rfl, hb4⟩
  have hQ4 := hQ3.below hb4
  have hB4 := hB3.trans (hb4.mono hB3.size)
  have hAf4 : After w w4 P1 (1 + ops.length) := by
    obtain ⟨pl, s, M, vl, late, h1, h2⟩ := hAf3
    exact ⟨pl, s, M, vl, late, h1.below hb4, h2⟩
  clear hAf3 hQ3 hB3 hb4 cW c1 c2
  by_cases hE : apartE A.N l = 0
  · have HE : Hid (apartE A.N l = 0) := hE
    rw [hE]
    have cC := hQ4.commit (HVK.out w4 hB4) hllM HLO.out hE
    obtain ⟨c1, c2⟩ := hQ4.cells
    clear hE
    go_wp2_with fail
    refine cC.mono ?_
    rintro e w5 ⟨rfl, ⟨s5, hQ5⟩, ho5⟩
    have hAf5 : After w w5 { P1 with K := fun _ => none } (1 + ops.length) := by
      obtain ⟨pl, s, M, vl, late, h1, h2⟩ := hAf4
      exact ⟨pl, s, M, vl, late, h1.other ho5 (fun k hk => ⟨hd3 k (by simp at hk ⊢; omega), HLA.out k hk⟩) (hQ4.keepT ho5), h2⟩
    have cG2 := HG.out w5 { P1 with K := fun _ => none } A s5 _ (1 + ops.length) (by omega) hAf5 hd3 hQ5
    dsimp only at cG2
    obtain ⟨x, hx⟩ : ∃ x, x = put l (fun _ => zeroS) := ⟨_, rfl⟩
    rw [← hx] at cG2
    have HX : Hid (∀ k, put (l.take l.length) (fun _ => zeroS) k = x k) := fun k => by rw [hx, List.take_length]
    clear hx cC hQ4 hQ5 ho5 hAf4 hAf5 hB4 hd3 c1 c2
    go_wp2_with fail
    refine cG2.mono ?_
    rintro e w6 ⟨rfl, P2, hq2, hAf6, _, hQ6⟩
    have hB6 : Below w.heap.size w w6 := by
      obtain ⟨_, _, _, _, _, h1, _⟩ := hAf6
      exact h1.b
    clear cG2 hAf6 hq2 HG
    go_wp2_with fail
    go_loopw [9] (fun i wr => ∃ k : Nat, k ≤ A.N ∧ i = .int .i64 (k : Int) ∧ IsQ wr A s5 x ∧ Below w.heap.size w wr) (fun i _ => A.N - (intOf i).toNat)
    case atStart => exact ⟨0, Nat.zero_le _, rfl, hQ6, hB6⟩
    case round =>
      obtain ⟨k, hk, rfl, hQk, hBk⟩ := hrel
      clear hQ6 hB6
      obtain ⟨c1, c2⟩ := hQk.cells
      by_cases hkN : k < A.N
      · have hkN' : (k : Int) < (A.N : Int) := by omega
        have cR := hQk.read k hkN
        go_wp2_with fail
        refine cR.mono ?_
        rintro e w7 ⟨rfl, hQ7, ho7⟩
        have hB7 : Below w.heap.size w w7 := hBk.trans (ho7.below hBk.size HLA.out)
        have cZ := lzero_any w7
        clear cR hQk ho7 hBk c1 c2
        go_wp2_with fail
        refine cZ.mono ?_
        rintro e w8 ⟨rfl, hb8⟩
        have hQ8 := hQ7.below hb8
        have hB8 := hB7.trans (hb8.mono hB7.size)
        clear hQ7 hB7 hb8 cZ
        go_wp2_with fail
        go_loopw [12, 13] (fun t i wr => ∃ j : Nat, j ≤ l.length ∧ i = .int .i64 (j : Int) ∧ t = .string (mk (put (l.take j) (fun _ => zeroS) k)) ∧ IsQ wr A s5 x ∧ Below w.heap.size w wr) (fun _ i _ => l.length - (intOf i).toNat)
        case atStart => exact ⟨0, Nat.zero_le _, rfl, rfl, hQ8, hB8⟩
        case round =>
          obtain ⟨j, hj, rfl, rfl, hQj, hBj⟩ := hrel
          clear hQ8 hB8
          obtain ⟨c1, c2⟩ := hQj.cells
          by_cases hjl : j < l.length
          · have hjl' : (j : Int) < (l.length : Int) := by omega
            have cW := wrong_any A.N hN8 (HVK.out wr hBj) hllM HLO.out
            rw [HE.out] at cW
            obtain ⟨T, hT⟩ : ∃ T, T = mk (put (l.take j) (fun _ => zeroS) k) := ⟨_, rfl⟩
            have hS := congrArg mk (put_take l (fun _ => zeroS) j hjl k)
            rw [← hT]
            go_wp2_with fail
            refine cW.mono ?_
            rintro e w9 ⟨rfl, hb9⟩
            have hQ9 := hQj.below hb9
            have hB9 := hBj.trans (hb9.mono hBj.size)
            clear hQj hBj hb9 cW c1 c2
            obtain ⟨_, _, ee, _, hrd⟩ := HVK.out w9 hB9
            obtain ⟨b, off, hbo, hbl, f0, f1⟩ := hrd j l[j] (by simp [hjl])
            cases ee
            subst hbo
            clear hrd
            obtain ⟨hOk, _⟩ := apartE_zero HE.out
            have g := good_parts (hOk.1 l[j] (List.getElem_mem hjl))
            clear hOk
            by_cases hkk : l[j].k = (k : Int)
            · rw [if_pos (by omega)] at hS
              rw [mk_data] at hS
              rw [hkk] at f0
              generalize l[j] = o at *
              clear hT
              go_wp2_with fail
              go_roundw
              case rel => exact ⟨j + 1, by omega, by go_num, by rw [hS], hQ9, hB9⟩
              case measure => simp [intOf]; omega
            · rw [if_neg (by omega)] at hS
              rw [← hT] at hS
              generalize l[j] = o at *
              have hkk' : (o.k == (k : Int)) = false := by simpa using hkk
              clear hT
              go_wp2_with fail
              go_roundw
              case rel => exact ⟨j + 1, by omega, by go_num, by rw [hS], hQ9, hB9⟩
              case measure => simp [intOf]; omega
          · obtain rfl : j = l.length := by omega
            have hjl' : ¬ (l.length : Int) < (l.length : Int) := by omega
            rw [HX.out k]
            clear c1 c2
            generalize mk (x k) = T at *
            go_wp2_with fail
            go_roundw
            case rel => exact ⟨k + 1, by omega, by go_num, hQj, hBj⟩
            case measure => simp [intOf]; omega
      · obtain rfl : k = A.N := by omega
        have hkN' : ¬ (A.N : Int) < (A.N : Int) := by omega
        clear hQk
        go_wp2_with fail
        go_ret
        exact ⟨rfl, hBk⟩
  · have cG2 := HG.out w4 P1 A _ _ (1 + ops.length) (by omega) hAf4 hd3 hQ4
    have HE : Hid (¬ apartE A.N l = 0) := hE
    have hE' : (apartE A.N l == 0) = false := by simpa using hE
    generalize newS n2 = s5 at *
    clear hE hQ4 hAf4 hB4 hd3
    obtain ⟨ae, hae⟩ : ∃ ae, ae = apartE A.N l := ⟨_, rfl⟩
    rw [← hae] at hE' ⊢
    go_wp2_with fail
    refine cG2.mono ?_
    rintro e w6 ⟨rfl, P2, hq2, hAf6, _, hQ6⟩
    have hB6 : Below w.heap.size w w6 := by
      obtain ⟨_, _, _, _, _, h1, _⟩ := hAf6
      exact h1.b
    clear cG2 hAf6 hq2 HG
    obtain ⟨x, hx⟩ : ∃ x : Nat → Sec, x = fun _ => zeroS := ⟨_, rfl⟩
    rw [← hx] at hQ6
    have HX : Hid (∀ k, x k = zeroS) := fun k => by rw [hx]
    clear hx
    go_wp2_with fail
    go_loopw [9] (fun i wr => ∃ k : Nat, k ≤ A.N ∧ i = .int .i64 (k : Int) ∧ IsQ wr A s5 x ∧ Below w.heap.size w wr) (fun i _ => A.N - (intOf i).toNat)
    case atStart => exact ⟨0, Nat.zero_le _, rfl, hQ6, hB6⟩
    case round =>
      obtain ⟨k, hk, rfl, hQk, hBk⟩ := hrel
      clear hQ6 hB6
      obtain ⟨c1, c2⟩ := hQk.cells
      by_cases hkN : k < A.N
      · have hkN' : (k : Int) < (A.N : Int) := by omega
        have cR := hQk.read k hkN
        go_wp2_with fail
        refine cR.mono ?_
        rintro e w7 ⟨rfl, hQ7, ho7⟩
        have hB7 : Below w.heap.size w w7 := hBk.trans (ho7.below hBk.size HLA.out)
        have cZ := lzero_any w7
        clear cR hQk ho7 hBk c1 c2
        go_wp2_with fail
        refine cZ.mono ?_
        rintro e w8 ⟨rfl, hb8⟩
        have hQ8 := hQ7.below hb8
        have hB8 := hB7.trans (hb8.mono hB7.size)
        clear hQ7 hB7 hb8 cZ
        go_wp2_with fail
        go_loopw [12, 13] (fun t i wr => i = .int .i64 0 ∧ t = .string (mk zeroS) ∧ IsQ wr A s5 x ∧ Below w.heap.size w wr) (fun _ _ _ => 0)
        case atStart => exact ⟨rfl, rfl, hQ8, hB8⟩
        case round =>
          obtain ⟨rfl, rfl, hQj, hBj⟩ := hrel
          clear hQ8 hB8
          obtain ⟨c1, c2⟩ := hQj.cells
          have hxk := HX.out k
          by_cases hjl : 0 < l.length
          · have hjl' : (0 : Int) < (l.length : Int) := by omega
            have cW := wrong_any A.N hN8 (HVK.out wr hBj) hllM HLO.out
            rw [← hae] at cW
            rw [hxk]
            generalize mk zeroS = T at *
            clear hxk
            go_wp2_with fail
            refine cW.mono ?_
            rintro e w9 ⟨rfl, hb9⟩
            have hQ9 := hQj.below hb9
            have hB9 := hBj.trans (hb9.mono hBj.size)
            clear hQj hBj hb9 cW c1 c2
            go_wp2_with fail
            go_roundw
            case rel => exact ⟨k + 1, by omega, by go_num, hQ9, hB9⟩
            case measure => simp [intOf]; omega
          · have hjl' : ¬ (0 : Int) < (l.length : Int) := by omega
            rw [hxk]
            clear c1 c2 hxk
            generalize mk zeroS = T at *
            go_wp2_with fail
            go_roundw
            case rel => exact ⟨k + 1, by omega, by go_num, hQj, hBj⟩
            case measure => simp [intOf]; omega
      · obtain rfl : k = A.N := by omega
        have hkN' : ¬ (A.N : Int) < (A.N : Int) := by omega
        clear hQk
        go_wp2_with fail
        go_ret
        exact ⟨rfl, hBk⟩

theorem own : ownKnob Try.prog.godebug = none := by kernel_rfl
theorem laidOut : laidOutB Try.prog = true := by kernel_rfl

set_option maxRecDepth 20000 in
theorem contract (H : Type) (enc : TypeId × Value → H) (W : World) (base : Nat) (args : Array Value) (ds gs : List (DataW H)) (before : List MemPlace)
    (hval : ∀ (j : Nat) t v, Try.f6.params[j]? = some t → args[j]? = some v → Value.okWide Try.prog W .any base t v)
    (hW : DataW.Whole enc Try.prog Try.f6.params.toList Rows.walApartSpec.vars false W args.toList ds gs before) (hsz0 : (DataW.weightsEach Try.prog (Try.f6.params.toList ++ Rows.walApartSpec.plain.varTypes Try.prog) (ds ++ gs)).all (· ≤ reachBytes) = true) :
    Calls Try.prog 6 args W fun e W' => ∃ v, e = .returned v ∧ Rows.walApartSpec.post enc Try.prog Try.f6 false true false false W args v W' := by
  have hW' := hW
  obtain ⟨p, q, hA0, hV, rfl, hfz, hnd⟩ := hW
  have hA : DataW.TrodAll enc Try.prog W 0 (fun _ => true) true Try.f6.params.toList args.toList ds p := hA0
  rw [Try.params6] at hA hval hsz0
  obtain ⟨v0, vs0, d0, ds0, p0, q0, hargs, rfl, rfl, h0, r0⟩ := trodAll_cons hA
  obtain ⟨v1, vs1, d1, ds1, p1, q1, rfl, rfl, rfl, h1, r1⟩ := trodAll_cons r0
  obtain ⟨rfl, rfl, rfl⟩ := trodAll_nil r1
  obtain rfl : args = #[v0, v1] := by cases args; simp_all
  obtain ⟨rfl, rfl⟩ := trodVars_none hV
  have k0 := h0
  have lt0 : ∀ x ∈ p0, x.block < W.heap.size := by obtain ⟨m, hm⟩ := k0; exact DataW.trod_lt m _ _ _ hm
  have k1 := h1
  have lt1 : ∀ x ∈ p1, x.block < W.heap.size := by obtain ⟨m, hm⟩ := k1; exact DataW.trod_lt m _ _ _ hm
  obtain ⟨a0, len0, cap0, rfl⟩ := okWide_slice Try.underlying42 (hval 0 42 v0 rfl rfl)
  obtain ⟨fuel0, hf0⟩ := h0
  have z0 : ∀ n ∈ d0.weights Try.prog 42, n ≤ reachBytes := fun n hn => by simpa using List.all_eq_true.1 hsz0 n (DataW.weights_mem_each (j := 0) (t := 42) (d := d0) rfl rfl n hn)
  obtain ⟨l0, rd0, ln0, ok0⟩ := open_opxs hf0 z0
  obtain ⟨a1, len1, cap1, rfl⟩ := okWide_slice Try.underlying48 (hval 1 48 v1 rfl rfl)
  obtain ⟨fuel1, hf1⟩ := h1
  have z1 : ∀ n ∈ d1.weights Try.prog 48, n ≤ reachBytes := fun n hn => by simpa using List.all_eq_true.1 hsz0 n (DataW.weights_mem_each (j := 1) (t := 48) (d := d1) rfl rfl n hn)
  obtain ⟨l1, rd1, ln1, ok1⟩ := open_wrz (v := .slice a1 len1 cap1) hf1 z1
  clear hA0
  simp only [List.append_nil] at hW'
  refine (walk (.slice a0 len0 cap0) l0 (.slice a1 len1 cap1) l1 W rd0 ln0 ok0 rd1 ln1 ok1).mono fun e W' ⟨he, bel⟩ => ?_
  subst he
  exact ⟨_, rfl, _, _, _, [], _, [], hW', trodAll_mk1 (shut_bool Try.underlying4 _), (trodAll_cons_mk (Below.trod laidOut (by kernel_rfl) (of_decide_eq_true (by kernel_rfl)) k0 bel lt0) (trodAll_cons_mk (Below.trod laidOut (by kernel_rfl) (of_decide_eq_true (by kernel_rfl)) k1 bel lt1) trodAll_mk0)), rfl, bel.frame _, fun h => by cases h⟩

set_option maxRecDepth 100000 in
theorem lifted (os : Os) (started : os.Started) (H : Type) (enc : TypeId × Value → H) :
    ReturnsInHanded {} Try.checked os 6 .any (Rows.walApartSpec.pre6 enc Try.prog Try.f6 Rows.walApartRow.domain false) (Rows.walApartSpec.post enc Try.prog Try.f6 false true false false) := by
  refine returnsInHanded_of_change_sized (C := Try.checked) own started (by kernel_rfl) Try.func6
    (ChangeSpec.witness6 (enc := enc) (C := Try.checked) false ⟨#[], #[.slice none 0 0, .slice none 0 0], []⟩ 8 (by kernel_rfl) (by kernel_rfl) (by kernel_rfl) (by kernel_rfl)) ?_
  intro W base args ds gs before hval hW _ hsz _
  exact contract H enc W base args ds gs before hval hW hsz

theorem holds : Rows.WalApartSaid :=
  OpenClaim.holds_of_wide 6 Try.f6 rfl rfl rfl rfl rfl rfl rfl ⟨rfl, rfl, rfl, rfl, rfl⟩ rfl rfl rfl rfl rfl (by kernel_rfl) Try.func6 (by kernel_rfl)
    (of_decide_eq_true (by kernel_rfl)) (by unfold Func.isWrapper; first | (rw [if_pos (by decide +kernel)]; kernel_rfl) | (rw [if_neg (by decide +kernel)]; exact ⟨rfl, rfl⟩))
    (fun os started H enc _ => lifted os started H enc)
end Go.Proofs.Ytblhmfkohbdmeaa.walApart
namespace Go.Proofs.Ytblhmfkohbdmeaa
theorem walApart_holds : Rows.WalApartSaid := walApart.holds
#print axioms walApart_holds
end Go.Proofs.Ytblhmfkohbdmeaa
