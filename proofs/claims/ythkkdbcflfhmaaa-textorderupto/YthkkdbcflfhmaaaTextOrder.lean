/-
  Proved: of valid texts the order by bytes is that of their code points (the law TextOrder), where what comes in is of bulk at most 1048576.
-/
import Derived.Test.YthkkdbcflfhmaaaTextBack
namespace Go.Proofs.Ythkkdbcflfhmaaa.textOrder
open Go.ChangeShapes Go.WideShapes Go.ChangeAt Go.RowKit Go.PlainAid
open Go.ChangeMaps (open_string shut_string)
open textBack (pointsR)

theorem small {H : Type} {s t : ByteArray} (hk : Rows.uptoSmall H [.lit (.string s.data.toList), .lit (.string t.data.toList)] = true) : s.size ≤ 1048576 ∧ t.size ≤ 1048576 := by
  have h : Rows.uptoBulkAll [DataW.lit (H := H) (.string s.data.toList), DataW.lit (H := H) (.string t.data.toList)] ≤ 1048576 := of_decide_eq_true hk
  simp only [Rows.uptoBulkAll, Rows.uptoBulk] at h
  rw [data_len, data_len] at h
  omega

theorem cmpI_prefix : ∀ (k : Nat) (a b : List Int), (∀ j, j < k → a[j]? = b[j]?) → k ≤ a.length → k ≤ b.length → cmpI a b = cmpI (a.drop k) (b.drop k)
  | 0, a, b, _, _, _ => by simp
  | k + 1, [], _, _, h, _ => by simp at h
  | k + 1, _ :: _, [], _, _, h => by simp at h
  | k + 1, x :: a, y :: b, hj, ha, hb => by
    have h0 := hj 0 (by omega)
    simp at h0
    subst h0
    rw [cmpI, if_neg (by omega), if_neg (by omega), List.drop_succ_cons, List.drop_succ_cons]
    exact cmpI_prefix k a b (fun j h => by simpa using hj (j + 1) (by omega)) (by simpa using ha) (by simpa using hb)

theorem drop_atI (X : List Int) (k : Nat) (h : k < X.length) : X.drop k = X.getD k 0 :: X.drop (k + 1) ∧ X[k]? = some (X.getD k 0) := by
  rw [List.drop_eq_getElem_cons h]
  simp [h]

set_option maxRecDepth 100000 in
set_option maxHeartbeats 8000000 in
theorem walk_ok (a b : ByteArray) (w : World) (n m : Nat) (ha : a.size ≤ 1048576) (hb : b.size ≤ 1048576) (hva : Valid a n) (hvb : Valid b m) :
    Calls Try.prog 8 #[.string a, .string b] w fun e w' => e = .returned (.bool true) ∧ Below w.heap.size w w' := by
  have cA := fun W => pointsR a n W (by omega) hva
  have cB := fun W => pointsR b m W (by omega) hvb
  have hna := (pos_le hva.1 n (Nat.le_refl _))
  have hnb := (pos_le hvb.1 m (Nat.le_refl _))
  have hn : n ≤ 1048576 := by omega
  have hm : m ≤ 1048576 := by omega
  obtain ⟨g1, g2⟩ := whole_eq hva
  obtain ⟨g3, g4⟩ := whole_eq hvb
  have cC := compare_any a b
  have hlX := ptL_length a n
  have hlY := ptL_length b m
  have hR0 : Lib.compareBytes a.data.toList b.data.toList = cmpI (ptL a n) (ptL b m) := by
    have h := cmp_enc (ptL a n) (ptL b m) g2 g4
    have e1 : a.data.toList = enc (ptL a n) := by rw [← mk_toList (enc (ptL a n)), g1]
    have e2 : b.data.toList = enc (ptL b m) := by rw [← mk_toList (enc (ptL b m)), g3]
    rw [e1, e2]
    exact h
  rw [hR0] at cC
  generalize ptL a n = X at cA cC hlX
  generalize ptL b m = Y at cB cC hlY
  clear g1 g2 g3 g4 hR0 hna hnb hva hvb
  obtain ⟨R, hR⟩ : ∃ R, R = cmpI X Y := ⟨_, rfl⟩
  rw [← hR] at cC
  have HR : Hid (R = cmpI X Y) := hR
  clear hR
  go_enter Try.func8, Try.ntmps8
  go_wp2_with fail
  refine (cA _).mono ?_
  rintro e w1 ⟨ao, cp, rfl, hr1, hb1⟩
  clear cA
  go_wp2_with fail
  refine (cB _).mono ?_
  rintro e w2 ⟨ao', cp', rfl, hr2, hb2⟩
  clear cB
  have hr1' := readsI_below hr1 hb2
  have hb12 := chain hb1 hb2
  obtain ⟨_, _, q1, hx⟩ := readsI_at hr1'
  obtain ⟨_, _, q2, hy⟩ := readsI_at hr2
  simp only [Value.slice.injEq] at q1 q2
  obtain ⟨rfl, q1', rfl⟩ := q1
  obtain ⟨rfl, q2', rfl⟩ := q2
  clear hr1 hr2 hr1' hb1 hb2 q1' q2'
  go_wp2
  go_loopw [9, 10] (fun t i wr => ∃ (k : Nat) (v : Int), k ≤ n ∧ k ≤ m ∧ t = .int .i64 v ∧ i = .int .i64 (k : Int) ∧ Below w2.heap.size w2 wr ∧ ((v = 0 ∧ Hid (∀ j, j < k → X[j]? = Y[j]?)) ∨ ((v = -1 ∨ v = 1) ∧ Hid (R = v)))) (fun t i _ => (n + 1 - (intOf i).toNat))
  case atStart => exact ⟨0, 0, by omega, by omega, rfl, rfl, Below.refl _ _, .inl ⟨rfl, fun j hj => by omega⟩⟩
  case round =>
    obtain ⟨k, v, hkn, hkm, rfl, rfl, hbl, hcase⟩ := hrel
    rcases hcase with ⟨rfl, HE⟩ | ⟨hv, HV⟩
    · have HC : Hid (R = cmpI (X.drop k) (Y.drop k)) := by
        show _ = _
        rw [HR.out]
        exact cmpI_prefix k X Y HE.out (by omega) (by omega)
      by_cases hka : k < n
      · by_cases hkb : k < m
        · obtain ⟨b1, o1, rfl, hcx⟩ := hx (by omega)
          obtain ⟨b2, o2, rfl, hcy⟩ := hy (by omega)
          have p1 := hcx k (by omega)
          have p2 := hcy k (by omega)
          have f1 := (hbl.cell (World.block_lt_of_cell? w2 _ p1)).trans p1
          have f2 := (hbl.cell (World.block_lt_of_cell? w2 _ p2)).trans p2
          obtain ⟨d1, i1⟩ := drop_atI X k (by omega)
          obtain ⟨d2, i2⟩ := drop_atI Y k (by omega)
          have HD : Hid (R = cmpI (X.getD k 0 :: X.drop (k + 1)) (Y.getD k 0 :: Y.drop (k + 1))) := by show _ = _; rw [HC.out, d1, d2]
          have HI : Hid (X[k]? = some (X.getD k 0) ∧ Y[k]? = some (Y.getD k 0)) := ⟨i1, i2⟩
          have l1 : (k : Int) < (n : Int) := by omega
          have l2 : (k : Int) < (m : Int) := by omega
          clear hcx hcy p1 p2 d1 d2 i1 i2 HC hx hy
          generalize X.getD k 0 = x at f1 HD HI
          generalize Y.getD k 0 = y at f2 HD HI
          by_cases c1 : x < y
          · have HN : Hid (R = -1) := by show _ = _; rw [HD.out, cmpI, if_pos c1]
            have c3 : ¬ y < x := by omega
            clear HD HI HE
            go_wp2
            go_quiet (fail)
            go_wp2
            go_quiet (fail)
            go_wp2
            go_roundw
            case rel => exact ⟨k + 1, -1, by omega, by omega, rfl, by go_num, by first | exact below_drewN hbl _ | exact below_drewN (below_drewN hbl _) _, .inr ⟨.inl rfl, HN⟩⟩
            case measure => simp [intOf]; omega
          · by_cases c2 : y < x
            · have HN : Hid (R = 1) := by show _ = _; rw [HD.out, cmpI, if_neg c1, if_pos c2]
              clear HD HI HE
              go_wp2
              go_quiet (fail)
              go_wp2
              go_quiet (fail)
              go_wp2
              go_roundw
              case rel => exact ⟨k + 1, 1, by omega, by omega, rfl, by go_num, by first | exact below_drewN hbl _ | exact below_drewN (below_drewN hbl _) _, .inr ⟨.inr rfl, HN⟩⟩
              case measure => simp [intOf]; omega
            · have HN : Hid (∀ j, j < k + 1 → X[j]? = Y[j]?) := fun j hj => by
                by_cases e : j = k
                · subst e; rw [HI.out.1, HI.out.2, show x = y by omega]
                · exact HE.out j (by omega)
              clear HD HI HE
              go_wp2
              go_quiet (fail)
              go_wp2
              go_quiet (fail)
              go_wp2
              go_roundw
              case rel => exact ⟨k + 1, 0, by omega, by omega, rfl, by go_num, by first | exact below_drewN hbl _ | exact below_drewN (below_drewN hbl _) _, .inl ⟨rfl, HN⟩⟩
              case measure => simp [intOf]; omega
        · have e : R = 1 := by
            obtain ⟨d1, _⟩ := drop_atI X k (by omega)
            have d2 : Y.drop k = [] := List.drop_of_length_le (by omega)
            rw [HC.out, d1, d2, cmpI]
          subst e
          have e1 : ¬ (n : Int) < (m : Int) := by omega
          clear HC HE HR hx hy
          go_wp2_with (first | (go_at_call 19; refine (cC _).mono ?_; rintro e w5 ⟨rfl, rfl⟩) | (go_at_call 14; refine (live_any _).mono ?_; rintro e w6 ⟨rfl, hb6⟩))
          go_ret
          exact ⟨rfl, chain (hb12.trans (hbl.mono hb12.size)) hb6⟩
      · by_cases hkb : k < m
        · have e : R = -1 := by
            obtain ⟨d1, _⟩ := drop_atI Y k (by omega)
            rw [HC.out, d1, List.drop_of_length_le (by omega), cmpI]
          subst e
          clear HC HE HR hx hy
          go_wp2_with (first | (go_at_call 19; refine (cC _).mono ?_; rintro e w5 ⟨rfl, rfl⟩) | (go_at_call 14; refine (live_any _).mono ?_; rintro e w6 ⟨rfl, hb6⟩))
          go_ret
          exact ⟨rfl, chain (hb12.trans (hbl.mono hb12.size)) hb6⟩
        · have e : R = 0 := by
            rw [HC.out, List.drop_of_length_le (by omega), List.drop_of_length_le (by omega), cmpI]
          subst e
          clear HC HE HR hx hy
          go_wp2_with (first | (go_at_call 19; refine (cC _).mono ?_; rintro e w5 ⟨rfl, rfl⟩) | (go_at_call 14; refine (live_any _).mono ?_; rintro e w6 ⟨rfl, hb6⟩))
          go_ret
          exact ⟨rfl, chain (hb12.trans (hbl.mono hb12.size)) hb6⟩
    · have e : R = v := HV.out
      clear hx hy HV HR
      subst e
      rcases hv with rfl | rfl
      · by_cases hka : k < n
        · by_cases hkb : k < m
          · go_wp2_with (first | (go_at_call 19; refine (cC _).mono ?_; rintro e w5 ⟨rfl, rfl⟩) | (go_at_call 14; refine (live_any _).mono ?_; rintro e w6 ⟨rfl, hb6⟩))
            go_ret
            exact ⟨rfl, chain (hb12.trans (hbl.mono hb12.size)) hb6⟩
          · go_wp2_with (first | (go_at_call 19; refine (cC _).mono ?_; rintro e w5 ⟨rfl, rfl⟩) | (go_at_call 14; refine (live_any _).mono ?_; rintro e w6 ⟨rfl, hb6⟩))
            go_ret
            exact ⟨rfl, chain (hb12.trans (hbl.mono hb12.size)) hb6⟩
        · go_wp2_with (first | (go_at_call 19; refine (cC _).mono ?_; rintro e w5 ⟨rfl, rfl⟩) | (go_at_call 14; refine (live_any _).mono ?_; rintro e w6 ⟨rfl, hb6⟩))
          go_ret
          exact ⟨rfl, chain (hb12.trans (hbl.mono hb12.size)) hb6⟩
      · by_cases hka : k < n
        · by_cases hkb : k < m
          · go_wp2_with (first | (go_at_call 19; refine (cC _).mono ?_; rintro e w5 ⟨rfl, rfl⟩) | (go_at_call 14; refine (live_any _).mono ?_; rintro e w6 ⟨rfl, hb6⟩))
            go_ret
            exact ⟨rfl, chain (hb12.trans (hbl.mono hb12.size)) hb6⟩
          · go_wp2_with (first | (go_at_call 19; refine (cC _).mono ?_; rintro e w5 ⟨rfl, rfl⟩) | (go_at_call 14; refine (live_any _).mono ?_; rintro e w6 ⟨rfl, hb6⟩))
            go_ret
            exact ⟨rfl, chain (hb12.trans (hbl.mono hb12.size)) hb6⟩
        · go_wp2_with (first | (go_at_call 19; refine (cC _).mono ?_; rintro e w5 ⟨rfl, rfl⟩) | (go_at_call 14; refine (live_any _).mono ?_; rintro e w6 ⟨rfl, hb6⟩))
          go_ret
          exact ⟨rfl, chain (hb12.trans (hbl.mono hb12.size)) hb6⟩

/-- What Points says of a text, valid or not. -/
theorem pointsAny (s : ByteArray) (hs : s.size ≤ 1048576) : ∃ r : Bool, ∀ W, Calls Try.prog 9 #[.string s] W fun e w' => ∃ v, e = .returned (.tuple #[v, .bool r]) ∧ Below W.heap.size W w' := by
  rcases valid_or_bad s with ⟨n, hv⟩ | ⟨k, hb⟩
  · refine ⟨true, fun W => (points_ok s n W (by omega) hv).mono ?_⟩
    rintro e w' ⟨v, he, _, hb⟩
    exact ⟨v, he, hb⟩
  · refine ⟨false, fun W => (points_bad s k W (by unfold maxLen; omega) hb).mono ?_⟩
    rintro e w' ⟨he, rfl⟩
    exact ⟨_, he, Below.refl _ _⟩

set_option maxRecDepth 100000 in
set_option maxHeartbeats 4000000 in
theorem walk_bad (a b : ByteArray) (w : World) (r1 r2 : Bool) (h : r1 = false ∨ r2 = false)
    (cA : ∀ W, Calls Try.prog 9 #[.string a] W fun e w' => ∃ v, e = .returned (.tuple #[v, .bool r1]) ∧ Below W.heap.size W w')
    (cB : ∀ W, Calls Try.prog 9 #[.string b] W fun e w' => ∃ v, e = .returned (.tuple #[v, .bool r2]) ∧ Below W.heap.size W w') :
    Calls Try.prog 8 #[.string a, .string b] w fun e w' => e = .returned (.bool true) ∧ Below w.heap.size w w' := by
  cases r1
  · clear h
    go_enter Try.func8, Try.ntmps8
    go_wp2_with fail
    refine (cA _).mono ?_
    rintro e w1 ⟨v1, rfl, hb1⟩
    clear cA
    go_wp2_with fail
    refine (cB _).mono ?_
    rintro e w2 ⟨v2, rfl, hb2⟩
    clear cB
    go_wp2_with (go_at_call 14; refine (live_any _).mono ?_; rintro e w6 ⟨rfl, hb6⟩)
    go_ret
    exact ⟨rfl, chain (chain hb1 hb2) hb6⟩
  · have e : r2 = false := by simpa using h
    subst e
    clear h
    go_enter Try.func8, Try.ntmps8
    go_wp2_with fail
    refine (cA _).mono ?_
    rintro e w1 ⟨v1, rfl, hb1⟩
    clear cA
    go_wp2_with fail
    refine (cB _).mono ?_
    rintro e w2 ⟨v2, rfl, hb2⟩
    clear cB
    go_wp2_with (go_at_call 14; refine (live_any _).mono ?_; rintro e w6 ⟨rfl, hb6⟩)
    go_ret
    exact ⟨rfl, chain (chain hb1 hb2) hb6⟩

theorem points_false (s : ByteArray) (k : Nat) (hs : s.size ≤ 1048576) (hb : Bad s k) : ∀ W, Calls Try.prog 9 #[.string s] W fun e w' => ∃ v, e = .returned (.tuple #[v, .bool false]) ∧ Below W.heap.size W w' := fun W =>
  (points_bad s k W (by unfold maxLen; omega) hb).mono (fun _ _ ⟨he, hw⟩ => ⟨_, he, by rw [← hw]; exact Below.refl _ _⟩)

theorem walk (a b : ByteArray) (w : World) (_ : a.size ≤ maxLen) (_ : b.size ≤ maxLen) (hs : a.size ≤ 1048576 ∧ b.size ≤ 1048576) :
    Calls Try.prog 8 #[.string a, .string b] w fun e w' => e = .returned (.bool true) ∧ Below w.heap.size w w' := by
  obtain ⟨ha, hb⟩ := hs
  obtain ⟨ra, hra⟩ := pointsAny a ha
  obtain ⟨rb, hrb⟩ := pointsAny b hb
  rcases valid_or_bad a with ⟨n, hva⟩ | ⟨k, hba⟩
  · rcases valid_or_bad b with ⟨m, hvb⟩ | ⟨k, hbb⟩
    · exact walk_ok a b w n m ha hb hva hvb
    · exact walk_bad a b w ra false (.inr rfl) hra (points_false b k hb hbb)
  · exact walk_bad a b w false rb (.inl rfl) (points_false a k ha hba) hrb

theorem own : ownKnob Try.prog.godebug = none := by kernel_rfl
theorem laidOut : laidOutB Try.prog = true := by kernel_rfl

theorem contract (H : Type) (enc : TypeId × Value → H) (W : World) (base : Nat) (args : Array Value) (ds gs : List (DataW H)) (before : List MemPlace)
    (hval : ∀ (j : Nat) t v, Try.f8.params[j]? = some t → args[j]? = some v → Value.okWide Try.prog W .any base t v)
    (hW : DataW.Whole enc Try.prog Try.f8.params.toList Rows.textOrderSpec.vars false W args.toList ds gs before) (hk : Rows.uptoSmall H (ds ++ gs) = true) :
    Calls Try.prog 8 args W fun e W' => ∃ v, e = .returned v ∧ Rows.textOrderSpec.post enc Try.prog Try.f8 false true false false W args v W' := by
  have hW' := hW
  obtain ⟨p, q, hA0, hV, rfl, hfz, hnd⟩ := hW
  have hA : DataW.TrodAll enc Try.prog W 0 (fun _ => true) true Try.f8.params.toList args.toList ds p := hA0
  rw [Try.params8] at hA hval
  obtain ⟨v0, vs0, d0, ds0, p0, q0, hargs, rfl, rfl, h0, r0⟩ := trodAll_cons hA
  obtain ⟨v1, vs1, d1, ds1, p1, q1, rfl, rfl, rfl, h1, r1⟩ := trodAll_cons r0
  obtain ⟨rfl, rfl, rfl⟩ := trodAll_nil r1
  obtain rfl : args = #[v0, v1] := by cases args; simp_all
  obtain ⟨rfl, rfl⟩ := trodVars_none hV
  have k0 := h0
  have lt0 : ∀ x ∈ p0, x.block < W.heap.size := by obtain ⟨m, hm⟩ := k0; exact DataW.trod_lt m _ _ _ hm
  have k1 := h1
  have lt1 : ∀ x ∈ p1, x.block < W.heap.size := by obtain ⟨m, hm⟩ := k1; exact DataW.trod_lt m _ _ _ hm
  obtain ⟨a0, rfl, rfl, rfl, w0⟩ := open_string Try.underlying9 (hval 0 9 v0 rfl rfl) h0
  obtain ⟨a1, rfl, rfl, rfl, w1⟩ := open_string Try.underlying9 (hval 1 9 v1 rfl rfl) h1
  clear hA0
  simp only [List.append_nil] at hW' hk
  refine (walk a0 a1 W w0 w1 (small hk)).mono fun e W' ⟨he, bel⟩ => ?_
  subst he
  exact ⟨_, rfl, _, _, _, [], _, [], hW', trodAll_mk1 (shut_bool Try.underlying4 _), (trodAll_cons_mk (Below.trod laidOut (by kernel_rfl) (of_decide_eq_true (by kernel_rfl)) k0 bel lt0) (trodAll_cons_mk (Below.trod laidOut (by kernel_rfl) (of_decide_eq_true (by kernel_rfl)) k1 bel lt1) trodAll_mk0)), rfl, bel.frame _, fun h => by cases h⟩

set_option maxRecDepth 100000 in
theorem lifted (os : Os) (started : os.Started) (H : Type) (enc : TypeId × Value → H) (F : Stop.Interp) :
    ReturnsInHanded {} Try.checked os 8 .any ((Rows.OpenSpec.upto Rows.textOrderSpec).pre6 enc Try.prog Try.f8 Rows.textOrderUptoRow.domain false) (((Rows.OpenSpec.upto Rows.textOrderSpec).at F).post enc Try.prog Try.f8 false true false false) := by
  refine returnsInHanded_of_cond (C := Try.checked) (s := Rows.OpenSpec.upto Rows.textOrderSpec) (k := Rows.uptoSmall) rfl own started (by kernel_rfl) Try.func8
    (OpenSpec.witness (enc := enc) (C := Try.checked) (s := Rows.OpenSpec.upto Rows.textOrderSpec) (k := Rows.uptoSmall) rfl false ⟨#[], #[.string .empty, .string .empty], []⟩ 8 (by kernel_rfl) (by kernel_rfl) (by kernel_rfl)
      (x := ([.lit (.string []), .lit (.string [])], [], [])) (by kernel_rfl) rfl (by kernel_rfl)) ?_
  intro W base args ds gs before hval hW _ hk _
  exact contract H enc W base args ds gs before hval hW hk

theorem holds : Rows.TextOrderUptoSaid :=
  OpenClaim.holds_of_cond 8 Try.f8 rfl rfl rfl rfl rfl rfl rfl ⟨rfl, rfl, rfl, rfl, rfl⟩ rfl rfl rfl rfl rfl (by kernel_rfl) Try.func8 (by kernel_rfl)
    (of_decide_eq_true (by kernel_rfl)) (by unfold Func.isWrapper; first | (rw [if_pos (by decide +kernel)]; kernel_rfl) | (rw [if_neg (by decide +kernel)]; exact ⟨rfl, rfl⟩))
    (fun os started H enc _ F => lifted os started H enc F)
end Go.Proofs.Ythkkdbcflfhmaaa.textOrder
namespace Go.Proofs.Ythkkdbcflfhmaaa
theorem textOrder_holds : Rows.TextOrderUptoSaid := textOrder.holds
#print axioms textOrder_holds
end Go.Proofs.Ythkkdbcflfhmaaa
