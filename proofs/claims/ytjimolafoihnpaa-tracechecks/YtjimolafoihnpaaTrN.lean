/-
  The reference's agree (layer 24).
-/
import Derived.Test.YtjimolafoihnpaaTrM
namespace Go.Proofs.Ytjimolafoihnpaa.tc
open Go.Maps Go.ChangeShapes Go.WideShapes Go.ChangeAt Go.RowKit Go.PlainAid

theorem agS_none (b : List (Nat × Int)) : ∀ (l : List (Nat × Int)), l.foldl (agS b) none = none
  | [] => rfl
  | x :: l => by rw [List.foldl_cons]; exact agS_none b l
theorem agF_part {b l m : List (Nat × Int)} (h : agF b l = none) : agF b (l ++ m) = none := by
  unfold agF at *
  rw [List.foldl_append, h]
  exact agS_none b m
theorem dA_take (N : List AtK) (a : List Atm) (i : Nat) : dA N a = dA N (a.take i) ++ dA N (a.drop i) := by
  unfold dA
  rw [← List.map_append, List.take_append_drop]
theorem dA_takeS {N : List AtK} {a : List Atm} {i : Nat} (h : i < a.length) : dA N (a.take (i + 1)) = dA N (a.take i) ++ [(N.idxOf a[i].key, a[i].z)] := by
  unfold dA
  rw [List.take_succ_eq_append_getElem h, List.map_append]
  rfl
set_option maxRecDepth 20000 in
set_option maxHeartbeats 2000000 in
theorem ragree_any (N : List AtK) (va vb : Value) (a b : List Atm) (w : World) (hra : RdA w va a) (hrb : RdA w vb b) (ha : ∀ x ∈ a, x.key ∈ N) (hb : ∀ x ∈ b, x.key ∈ N) (hla : a.length ≤ 1048576) (hlb : b.length ≤ 1048576) :
    Calls Try.prog 19 #[va, vb] w fun e w' => e = .returned (.bool (agF (dA N b) (dA N a)).isSome) ∧ Below w.heap.size w w' := by
  obtain ⟨ao, ca, rfl, -⟩ := id hra
  obtain ⟨bo, cb, rfl, -⟩ := id hrb
  obtain ⟨T, HT⟩ : ∃ T, Hid ((agF (dA N b) (dA N a)).isSome = T) := ⟨_, rfl⟩
  rw [HT.out]
  go_enter Try.func19, Try.ntmps19
  go_wp2_with fail
  go_loopw [5, 6] (fun lv iv wr => ∃ (i n : Nat) (last : Int), i ≤ a.length ∧ lv = .int .i64 last ∧ iv = .int .i64 (i : Int) ∧ Hid (agF (dA N b) (dA N (a.take i)) = some n) ∧ Hid (last = (n : Int) ∨ (last = -1 ∧ n = 0)) ∧ Below w.heap.size w wr) (fun _ iv _ => a.length - (Go.RowKit.intOf iv).toNat)
  case atStart => exact ⟨0, 0, -1, Nat.zero_le _, rfl, rfl, rfl, .inr ⟨rfl, rfl⟩, Below.refl _ _⟩
  case round =>
    obtain ⟨i, n, last, hi, rfl, rfl, HA, HL, hbw⟩ := hrel
    by_cases hlt : i < a.length
    · have hlt' : (i : Int) < (a.length : Int) := by omega
      have hx : a[i]? = some a[i] := by simp [hlt]
      have hxN := ha a[i] (List.getElem_mem hlt)
      obtain ⟨ba, oa, rfl, hba, c0, c1, c2, c3⟩ := rda_at hra hx
      have q := fun o => hbw.cell (p := ⟨ba, o, none⟩) hba
      rw [← q] at c0 c1 c2 c3
      have cF := rfind_any _ b a[i] wr (hrb.below hbw) (by omega)
      have HTK : Hid (dA N (a.take (i + 1)) = dA N (a.take i) ++ [(N.idxOf a[i].key, a[i].z)]) := dA_takeS hlt
      have HTN : Hid (agF (dA N b) (dA N (a.take (i + 1))) = none → T = false) := fun h => by
        rw [← HT.out, dA_take N a (i + 1), agF_part h]
        rfl
      have hfd := fd_dA a[i] hxN b 0 hb
      clear q hx HT ha hxN
      generalize a[i] = x at *
      rcases hfd with ⟨h1, h2⟩ | ⟨k, y, h1, h2, h3⟩
      · rw [h2] at cF
        have HA2 : Hid (agF (dA N b) (dA N (a.take (i + 1))) = some n) := by
          show _ = _
          rw [HTK.out, agF_skip h1]
          exact HA.out
        clear h1 h2 HTK HTN HA
        go_wp2_with fail
        refine cF.mono ?_
        rintro e w2 ⟨rfl, hb2⟩
        clear cF c0 c1 c2 c3
        go_wp2_with fail
        exact ⟨⟨i + 1, n, last, by omega, rfl, by go_num, HA2, HL, chain hbw hb2⟩, by simp [Go.RowKit.intOf]; omega⟩
      · rw [h2, Nat.zero_add] at cF
        have hkb : k < b.length := (List.getElem?_eq_some_iff.1 h3).1
        have hkb' : (k : Int) < (b.length : Int) := by omega
        obtain ⟨bb, ob, rfl, hbb, -, -, -, d3⟩ := rda_at hrb h3
        have HM : Hid (agF (dA N b) (dA N (a.take (i + 1))) = if y.z = x.z ∧ n ≤ k then some k else none) := by
          show _ = _
          rw [HTK.out]
          exact agF_met (x := (N.idxOf x.key, x.z)) (y := (k, y.z)) HA.out h1
        have hk0 : ¬ (k : Int) < 0 := by omega
        clear h1 h2 h3 HTK HA
        go_wp2_with fail
        refine cF.mono ?_
        rintro e w2 ⟨rfl, hb2⟩
        have hbW := chain hbw hb2
        have e3 : ∀ s : Beh w2, s.it.cell? ⟨ba, oa + i * 4 + 3, none⟩ = some (.int .i64 x.z) := fun s => (s.h.cell (p := ⟨ba, _, none⟩) (Nat.lt_of_lt_of_le hba hbW.size)).trans ((hb2.cell (p := ⟨ba, _, none⟩) (Nat.lt_of_lt_of_le hba hbw.size)).trans c3)
        have g3 : ∀ s : Beh w2, s.it.cell? ⟨bb, ob + k * 4 + 3, none⟩ = some (.int .i64 y.z) := fun s => (s.h.cell (p := ⟨bb, _, none⟩) (Nat.lt_of_lt_of_le hbb hbW.size)).trans ((hbW.cell (p := ⟨bb, _, none⟩) hbb).trans d3)
        clear cF c0 c1 c2 c3 d3 hb2
        by_cases hz : y.z = x.z
        · have z1 : (y.z == x.z) = true := beq_iff_eq.2 hz
          have z2 : (y.z != x.z) = false := by rw [bne, z1]; rfl
          by_cases hl : (k : Int) < last
          · have l1 : decide ((k : Int) < last) = true := decide_eq_true hl
            have HX : Hid (T = false) := HTN.out (by
              rw [HM.out, if_neg]
              rintro ⟨-, h⟩
              rcases HL.out with h2 | ⟨h2, h3⟩ <;> omega)
            clear HM HTN HL hz
            go_upto_region 7 with fail
            refine wp_region_beh (by kernel_rfl) (by kernel_rfl) ?_
            repeat (go_big_quiet_step (fail))
            refine wpQuiet_nil ?_
            intro wq hw'
            have hwq := Beh.out hw'
            clear hw' e3 g3
            go_wp2_with fail
            go_ret
            exact ⟨ret_bT HX.out.symm, chain hbW hwq⟩
          · have l1 : decide ((k : Int) < last) = false := decide_eq_false hl
            have HX : Hid (agF (dA N b) (dA N (a.take (i + 1))) = some k) := by
              show _ = _
              rw [HM.out, if_pos ⟨hz, by rcases HL.out with h2 | ⟨h2, h3⟩ <;> omega⟩]
            clear HM HTN HL hz
            go_upto_region 7 with fail
            refine wp_region_beh (by kernel_rfl) (by kernel_rfl) ?_
            repeat (go_big_quiet_step (fail))
            refine wpQuiet_nil ?_
            intro wq hw'
            have hwq := Beh.out hw'
            clear hw' e3 g3
            go_wp2_with fail
            exact ⟨⟨i + 1, k, (k : Int), by omega, rfl, by go_num, HX, .inl rfl, chain hbW hwq⟩, by simp [Go.RowKit.intOf]; omega⟩
        · have z1 : (y.z == x.z) = false := beq_eq_false_iff_ne.2 hz
          have z2 : (y.z != x.z) = true := by rw [bne, z1]; rfl
          have HX : Hid (T = false) := HTN.out (by
            rw [HM.out, if_neg]
            rintro ⟨h, -⟩
            exact hz h)
          clear HM HTN HL hz
          go_upto_region 7 with fail
          refine wp_region_beh (by kernel_rfl) (by kernel_rfl) ?_
          repeat (go_big_quiet_step (fail))
          refine wpQuiet_nil ?_
          intro wq hw'
          have hwq := Beh.out hw'
          clear hw' e3 g3
          go_wp2_with fail
          go_ret
          exact ⟨ret_bT HX.out.symm, chain hbW hwq⟩
    · obtain rfl : i = a.length := by omega
      have HX : Hid (T = true) := by
        show _ = _
        have h := HA.out
        rw [List.take_length] at h
        rw [← HT.out, h]
        rfl
      clear HA HL HT
      go_wp2_with fail
      go_ret
      exact ⟨ret_bT HX.out.symm, hbw⟩
end Go.Proofs.Ytjimolafoihnpaa.tc
