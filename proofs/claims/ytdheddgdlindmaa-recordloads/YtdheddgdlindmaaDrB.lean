/-
  The contract of the reference's Encode.
-/
import Derived.Test.YtdheddgdlindmaaDrA
import Derived.Test.YtdheddgdlindmaaPkMarked
import Derived.Test.YtdheddgdlindmaaPkRefW
namespace Go.Proofs.Ytdheddgdlindmaa
open Go.ChangeShapes Go.WideShapes Go.ChangeAt Go.RowKit Go.PlainAid

theorem conv_made (l : List UInt8) (base : Nat) (w : World) (hb : base ≤ w.heap.size) (hl : l.length ≤ maxLen) :
    ∃ v0 w0, (convert 9 52 (.string (mk l))).run Try.prog w = .ok v0 w0 ∧ pk.OwnM w0 base v0 l ∧ Below w.heap.size w w0 := by
  refine ⟨_, _, run_bytes_of_string w 9 52 5 (mk l) Try.underlying9 Try.underlying52 Try.underlying5, ?_, ?_⟩
  · have := pk.made_marked w (mk l) base hb (by rw [mk_size]; exact hl)
    rw [mk_toList] at this
    exact this
  · exact Below.alloc (Below.refl _ w).drew (Nat.le_refl _) _
theorem ownM_lt {w : World} {base : Nat} {v : Value} {l : List UInt8} (h : pk.OwnM w base v l) : ∀ k, v.ownBlock = some k → base ≤ k := by
  obtain ⟨g, cap, cur, fz, rfl, hbg, _⟩ := h
  intro k hk
  simp [Value.ownBlock] at hk
  omega
theorem ownM_below {w w' : World} {base : Nat} {v : Value} {l : List UInt8} (h : pk.OwnM w base v l) (hb : Below w.heap.size w w') : pk.OwnM w' base v l := by
  obtain ⟨g, cap, cur, fz, rfl, hbg, hg, rest⟩ := h
  refine ⟨g, cap, cur, fz, rfl, hbg, ?_, rest⟩
  rw [hb.block g (Array.getElem?_eq_some_iff.1 hg).1]
  exact hg

set_option maxRecDepth 20000 in
set_option maxHeartbeats 4000000 in
theorem refEncode_any (v : Value) (ds : List OpD) (w : World) (hr : RdD w v ds) (hm : ds.length ≤ maxLen) (hi : ∀ o ∈ ds, o.Sm) :
    Calls Try.prog 29 #[v] w fun e w' => e = .returned (.tuple #[.string (encR ds).1, .int .i64 (encR ds).2]) ∧ Below w.heap.size w w' := by
  have hC := refCheck_any v ds w hr hm hi
  by_cases c : chk ds = 0
  · have HR : Hid (encR ds = (mk (encB (stR ds)), 0)) := by show _ = _; rw [encR, if_pos c]
    have hin : ∀ o ∈ ds, o.In := fun o ho => sm_in (hi o ho)
    have hok := stR_ok hin
    have hsm := ins_small hin
    have hln := stR_len ds
    have hds := stR_op c
    rw [c] at hC
    generalize stR ds = l at *
    subst hds
    obtain ⟨i0, hin0, hz0, hz1, hz2⟩ := info_parts Try.info5
    obtain ⟨ao, cp, rfl, _, hc⟩ := hr
    rw [List.length_map] at *
    clear hi hin hm c
    go_enter Try.func29, Try.ntmps29
    go_wp2_with fail
    refine hC.mono ?_
    rintro e w1 ⟨rfl, hb1⟩
    clear hC
    have hs1 := hb1.size
    go_wp2_with fail
    refine (pk.refNumW_ok l.length w1 (by omega)).mono ?_
    rintro e w2 ⟨rfl, hb2⟩
    have hs2 := hb2.size
    obtain ⟨v0, w0, hcv, ho0, hb0⟩ := conv_made (numB l.length) w.heap.size w2 (by omega) (by have := numB_len (n := l.length); unfold maxLen; omega)
    have hB0 : Below w.heap.size w w0 := chain (chain hb1 hb2) hb0
    clear hb1 hb2 hs1 hs2 hb0
    go_wp2_with fail
    clear hcv
    go_loopw [7, 8] (fun d i wr => ∃ k : Nat, k ≤ l.length ∧ i = .int .i64 (k : Int) ∧ pk.OwnM wr w.heap.size d (numB l.length ++ stsB (l.take k)) ∧ Below w.heap.size w wr) (fun _ i _ => l.length - (intOf i).toNat)
    case atStart => exact ⟨0, by omega, rfl, by simpa [stsB] using ho0, hB0⟩
    case round =>
      obtain ⟨k, hk, rfl, ho, hbl⟩ := hrel
      clear ho0 hB0
      have hsz := hbl.size
      by_cases hlt : k < l.length
      · have hlt' : (k : Int) < (l.length : Int) := by omega
        have hsk := hok l[k] (List.getElem_mem hlt)
        have hik := hsm l[k] (List.getElem_mem hlt)
        have HT : Hid (stsB (l.take (k + 1)) = stsB (l.take k) ++ stB l[k]) := stsB_take l k hlt
        have hlen : (numB l.length ++ stsB (l.take k)).length ≤ 70000000 := by
          have h1 := stsB_len (l := l.take k) (fun s hs => hsm s (List.mem_of_mem_take hs))
          have h2 := numB_len (n := l.length)
          rw [List.length_take] at h1
          rw [List.length_append]; omega
        obtain ⟨b, off, rfl, hbb, c0, c1, c2⟩ := hc k (l[k]).op (by simp [hlt])
        have hBc : ∀ {W : World} o, Below w.heap.size w W → W.cell? ⟨b, o, none⟩ = w.cell? ⟨b, o, none⟩ := fun o h => h.cell (p := ⟨b, o, none⟩) hbb
        have e0 := c0
        have e1 := c1
        have e2 := c2
        rw [← hBc _ hbl] at c0 c1 c2
        clear hc
        generalize l[k] = s at hsk hik HT c0 c1 c2 e0 e1 e2
        generalize hX : numB l.length ++ stsB (l.take k) = X at *
        have HX : Hid (numB l.length ++ stsB (l.take (k + 1)) = X ++ stB s) := by show _ = _; rw [HT.out, ← List.append_assoc, hX]
        clear hX HT hsm hok
        cases s with
        | keep n =>
          simp only [St.op, stB, nmB_two, St.Ok] at *
          have hK := fun W => pk.refNumW_ok 1 W (by decide)
          have hV := fun W => pk.refNumW_ok n W (by omega)
          have l1 := numB_len (n := 1)
          have l2 := numB_len (n := n)
          have m1 := mk_size (numB 1)
          have m2 := mk_size (numB n)
          clear hik hsk
          go_wp2_with fail
          refine (hK _).mono ?_
          rintro e w2 ⟨rfl, hb2⟩
          have ho2 := ownM_below ho hb2
          have hB2 := hbl.trans (hb2.mono hsz)
          have hs2 := hB2.size
          clear hb2 ho c0 c1 c2
          go_wp2_with (at_builtin; refine pk.wpList_app_marked _ rfl (.tmp 43) (.tmp 44) rfl w.heap.size i0 Try.underlying52 Try.underlying9 hin0 hz0 hz1 hz2 _ _ rfl ho2 (mk (numB 1)) rfl (by rw [m1]; omega) (by omega) ?_; intro v3 w3 ho3 hg3; have hB3 : Below w.heap.size w w3 := hB2.grown hg3 hs2 (ownM_lt ho2); have d0 := (hBc _ hB3).trans e0; have d1 := (hBc _ hB3).trans e1; have d2 := (hBc _ hB3).trans e2; clear ho2 hg3)
          have hs3 := hB3.size
          rw [mk_toList] at ho3
          refine (hV _).mono ?_
          rintro e w4 ⟨rfl, hb4⟩
          have ho4 := ownM_below ho3 hb4
          have hB4 := hB3.trans (hb4.mono hs3)
          have hs4 := hB4.size
          clear hb4 ho3 d0 d1 d2
          go_wp2_with (at_builtin; refine pk.wpList_app_marked _ rfl (.tmp 73) (.tmp 74) rfl w.heap.size i0 Try.underlying52 Try.underlying9 hin0 hz0 hz1 hz2 _ _ rfl ho4 (mk (numB n)) rfl (by rw [m2, List.length_append]; omega) (by omega) ?_; intro v5 w5 ho5 hg5; have hB5 : Below w.heap.size w w5 := hB4.grown hg5 hs4 (ownM_lt ho4); clear ho4 hg5)
          rw [mk_toList, List.append_assoc] at ho5
          go_roundw
          case rel => exact ⟨k + 1, by omega, by go_num, by rw [HX.out]; exact ho5, hB5⟩
          case measure => simp [intOf]; omega
        | rem n =>
          simp only [St.op, stB, nmB_two, St.Ok] at *
          have hK := fun W => pk.refNumW_ok 3 W (by decide)
          have hV := fun W => pk.refNumW_ok n W (by omega)
          have l1 := numB_len (n := 3)
          have l2 := numB_len (n := n)
          have m1 := mk_size (numB 3)
          have m2 := mk_size (numB n)
          clear hik hsk
          go_wp2_with fail
          refine (hK _).mono ?_
          rintro e w2 ⟨rfl, hb2⟩
          have ho2 := ownM_below ho hb2
          have hB2 := hbl.trans (hb2.mono hsz)
          have hs2 := hB2.size
          clear hb2 ho c0 c1 c2
          go_wp2_with (at_builtin; refine pk.wpList_app_marked _ rfl (.tmp 43) (.tmp 44) rfl w.heap.size i0 Try.underlying52 Try.underlying9 hin0 hz0 hz1 hz2 _ _ rfl ho2 (mk (numB 3)) rfl (by rw [m1]; omega) (by omega) ?_; intro v3 w3 ho3 hg3; have hB3 : Below w.heap.size w w3 := hB2.grown hg3 hs2 (ownM_lt ho2); have d0 := (hBc _ hB3).trans e0; have d1 := (hBc _ hB3).trans e1; have d2 := (hBc _ hB3).trans e2; clear ho2 hg3)
          have hs3 := hB3.size
          rw [mk_toList] at ho3
          refine (hV _).mono ?_
          rintro e w4 ⟨rfl, hb4⟩
          have ho4 := ownM_below ho3 hb4
          have hB4 := hB3.trans (hb4.mono hs3)
          have hs4 := hB4.size
          clear hb4 ho3 d0 d1 d2
          go_wp2_with (at_builtin; refine pk.wpList_app_marked _ rfl (.tmp 73) (.tmp 74) rfl w.heap.size i0 Try.underlying52 Try.underlying9 hin0 hz0 hz1 hz2 _ _ rfl ho4 (mk (numB n)) rfl (by rw [m2, List.length_append]; omega) (by omega) ?_; intro v5 w5 ho5 hg5; have hB5 : Below w.heap.size w w5 := hB4.grown hg5 hs4 (ownM_lt ho4); clear ho4 hg5)
          rw [mk_toList, List.append_assoc] at ho5
          go_roundw
          case rel => exact ⟨k + 1, by omega, by go_num, by rw [HX.out]; exact ho5, hB5⟩
          case measure => simp [intOf]; omega
        | ins t =>
          simp only [St.op, stB, nmB_one, St.Ok] at *
          have hK := fun W => pk.refNumW_ok 2 W (by decide)
          have hts := hik t rfl
          have hV := fun W => pk.refTextW_any t W (by unfold maxLen; omega)
          have eT : pk.textR t = (mk (pk.textB t), 0) := by rw [pk.textR, if_pos hts]
          rw [eT] at hV
          simp only at hV
          clear eT
          have l1 := numB_len (n := 2)
          have l2 := pk.textB_len t
          have m1 := mk_size (numB 2)
          have m2 := mk_size (pk.textB t)
          clear hik hsk
          go_wp2_with fail
          refine (hK _).mono ?_
          rintro e w2 ⟨rfl, hb2⟩
          have ho2 := ownM_below ho hb2
          have hB2 := hbl.trans (hb2.mono hsz)
          have hs2 := hB2.size
          clear hb2 ho c0 c1 c2
          go_wp2_with (at_builtin; refine pk.wpList_app_marked _ rfl (.tmp 43) (.tmp 44) rfl w.heap.size i0 Try.underlying52 Try.underlying9 hin0 hz0 hz1 hz2 _ _ rfl ho2 (mk (numB 2)) rfl (by rw [m1]; omega) (by omega) ?_; intro v3 w3 ho3 hg3; have hB3 : Below w.heap.size w w3 := hB2.grown hg3 hs2 (ownM_lt ho2); have d0 := (hBc _ hB3).trans e0; have d1 := (hBc _ hB3).trans e1; have d2 := (hBc _ hB3).trans e2; clear ho2 hg3)
          have hs3 := hB3.size
          rw [mk_toList] at ho3
          refine (hV _).mono ?_
          rintro e w4 ⟨rfl, hb4⟩
          have ho4 := ownM_below ho3 hb4
          have hB4 := hB3.trans (hb4.mono hs3)
          have hs4 := hB4.size
          clear hb4 ho3 d0 d1 d2
          go_wp2_with (at_builtin; refine pk.wpList_app_marked _ rfl (.tmp 61) (.tmp 62) rfl w.heap.size i0 Try.underlying52 Try.underlying9 hin0 hz0 hz1 hz2 _ _ rfl ho4 (mk (pk.textB t)) rfl (by rw [m2, List.length_append]; omega) (by omega) ?_; intro v5 w5 ho5 hg5; have hB5 : Below w.heap.size w w5 := hB4.grown hg5 hs4 (ownM_lt ho4); clear ho4 hg5)
          rw [mk_toList, List.append_assoc] at ho5
          go_roundw
          case rel => exact ⟨k + 1, by omega, by go_num, by rw [HX.out]; exact ho5, hB5⟩
          case measure => simp [intOf]; omega
      · have e : k = l.length := by omega
        subst e
        rw [List.take_length] at ho
        have hcv := pk.conv_marked Try.underlying52 Try.underlying5 Try.underlying9 ho
        clear hc hok hsm ho
        go_wp2
        go_ret2
        exact ⟨by rw [HR.out]; rfl, hbl⟩
  · have e : encR ds = (⟨#[]⟩, chk ds) := by rw [encR, if_neg c]
    rw [e]
    have hne : (chk ds != 0) = true := by simpa using c
    clear e
    generalize chk ds = x at *
    go_enter Try.func29, Try.ntmps29
    go_wp2_with (go_at_call 58; refine hC.mono ?_; rintro e w2 ⟨rfl, hb2⟩)
    go_ret2
    exact ⟨rfl, hb2⟩
end Go.Proofs.Ytdheddgdlindmaa

/-
  The contract of the reference's Decode.
-/
namespace Go.Proofs.Ytdheddgdlindmaa
open Go.ChangeShapes Go.WideShapes Go.ChangeAt Go.RowKit Go.PlainAid

/-- An operation, as the reference reads it. -/
def rdO (s : ByteArray) (a : Int) : Option (OpD × Int) :=
  if (pk.tk s a 1125899906842624).2.2 ≠ 0 then none
  else if (pk.tk s a 1125899906842624).1 = 2 then
    (if (pk.tkT s (pk.tk s a 1125899906842624).2.1).2.2 ≠ 0 then none else some (⟨2, 0, (pk.tkT s (pk.tk s a 1125899906842624).2.1).1⟩, (pk.tkT s (pk.tk s a 1125899906842624).2.1).2.1))
  else if (pk.tk s (pk.tk s a 1125899906842624).2.1 1125899906842624).2.2 ≠ 0 then none
  else some (⟨(pk.tk s a 1125899906842624).1, (pk.tk s (pk.tk s a 1125899906842624).2.1 1125899906842624).1, ⟨#[]⟩⟩, (pk.tk s (pk.tk s a 1125899906842624).2.1 1125899906842624).2.1)
def refGo (s : ByteArray) : Nat → Int → List OpD → Option (List OpD × Int)
  | 0, a, acc => some (acc, a)
  | n + 1, a, acc => match rdO s a with
    | none => none
    | some (o, q) => refGo s n q (acc ++ [o])
def refF (s : ByteArray) : Option (List OpD × Int) → List OpD × Int
  | none => ([], 90)
  | some (D, _) => if (encR D).2 ≠ 0 ∨ (encR D).1 ≠ s then ([], 90) else (D, 0)
def refR (s : ByteArray) : List OpD × Int :=
  if (pk.tk s 0 1125899906842624).2.2 ≠ 0 ∨ 3000 < (pk.tk s 0 1125899906842624).1 then ([], 90)
  else refF s (refGo s (pk.tk s 0 1125899906842624).1.toNat (pk.tk s 0 1125899906842624).2.1 [])

/-- The one reading and the other. -/
theorem rdO_rel (s : ByteArray) (a : Int) : (∀ st q, tkS s a = some (st, q) → rdO s a = some (st.op, q)) ∧ (tkS s a = none → rdO s a = none ∨ ∃ o q, rdO s a = some (o, q) ∧ stOf o = none) := by
  rcases pk.tk_cases s a 1125899906842624 with ⟨k, p, hr, _⟩ | ⟨er, hr, her⟩
  · by_cases k2 : (k : Int) = 2
    · rcases tkT_cases s (p : Int) with ⟨t, q, ht⟩ | ⟨e, ht, he⟩
      · have e1 : tkS s a = some (.ins t, q) := by
          rw [tkS, hr]
          simp only
          rw [if_neg (by simp), if_pos k2, ht]
          simp
        have e2 : rdO s a = some (⟨2, 0, t⟩, q) := by
          rw [rdO, hr]
          simp only
          rw [if_neg (by simp), if_pos k2, ht]
          simp
        rw [e1, e2]
        exact ⟨fun st q' h => by simp at h; obtain ⟨rfl, rfl⟩ := h; rfl, fun h => by simp at h⟩
      · have e1 : tkS s a = none := by
          rw [tkS, hr]
          simp only
          rw [if_neg (by simp), if_pos k2, ht]
          simp [he]
        have e2 : rdO s a = none := by
          rw [rdO, hr]
          simp only
          rw [if_neg (by simp), if_pos k2, ht]
          simp [he]
        rw [e1, e2]
        exact ⟨fun st q' h => by simp at h, fun _ => .inl rfl⟩
    · rcases pk.tk_cases s (p : Int) 1125899906842624 with ⟨n, q, hq, _⟩ | ⟨e, hq, he⟩
      · have e2 : rdO s a = some (⟨(k : Int), (n : Int), ⟨#[]⟩⟩, (q : Int)) := by
          rw [rdO, hr]
          simp only
          rw [if_neg (by simp), if_neg k2, hq]
          simp
        have e1 : tkS s a = if (k : Int) = 1 then some (.keep n, (q : Int)) else if (k : Int) = 3 then some (.rem n, (q : Int)) else none := by
          rw [tkS, hr]
          simp only
          rw [if_neg (by simp), if_neg k2, hq]
          simp
        rw [e1, e2]
        by_cases k1 : (k : Int) = 1
        · rw [if_pos k1]
          refine ⟨fun st q' h => ?_, fun h => by simp at h⟩
          simp at h
          obtain ⟨rfl, rfl⟩ := h
          rw [k1]; rfl
        · rw [if_neg k1]
          by_cases k3 : (k : Int) = 3
          · rw [if_pos k3]
            refine ⟨fun st q' h => ?_, fun h => by simp at h⟩
            simp at h
            obtain ⟨rfl, rfl⟩ := h
            rw [k3]; rfl
          · rw [if_neg k3]
            refine ⟨fun st q' h => by simp at h, fun _ => .inr ⟨_, _, rfl, ?_⟩⟩
            simp only [stOf]
            rw [if_neg k1, if_neg k3]
            split
            · rfl
            · rw [if_neg (fun h => k2 h.1)]
      · have e1 : tkS s a = none := by
          rw [tkS, hr]
          simp only
          rw [if_neg (by simp), if_neg k2, hq, if_pos (by simp only; omega)]
        have e2 : rdO s a = none := by
          rw [rdO, hr]
          simp only
          rw [if_neg (by simp), if_neg k2, hq, if_pos (by simp only; omega)]
        rw [e1, e2]
        exact ⟨fun st q' h => by simp at h, fun _ => .inl rfl⟩
  · have e1 : tkS s a = none := by rw [tkS, hr, if_pos (by simp only; omega)]
    have e2 : rdO s a = none := by rw [rdO, hr, if_pos (by simp only; omega)]
    rw [e1, e2]
    exact ⟨fun st q' h => by simp at h, fun _ => .inl rfl⟩
theorem refGo_pre (s : ByteArray) : ∀ (n : Nat) (a : Int) (acc D : List OpD) (b : Int), refGo s n a acc = some (D, b) → ∀ o ∈ acc, o ∈ D
  | 0, a, acc, D, b, h => by simp [refGo] at h; rw [h.1]; exact fun o ho => ho
  | n + 1, a, acc, D, b, h => by
    rw [refGo] at h
    cases hr : rdO s a with
    | none => rw [hr] at h; simp at h
    | some r =>
      obtain ⟨o', q⟩ := r
      rw [hr] at h
      exact fun o ho => refGo_pre s n q _ D b h o (by simp [ho])
theorem go_rel (s : ByteArray) : ∀ (n : Nat) (a : Int) (acc : List St),
    (∀ l b, decGo s n a acc = some (l, b) → refGo s n a (acc.map St.op) = some (l.map St.op, b)) ∧
    (decGo s n a acc = none → refGo s n a (acc.map St.op) = none ∨ ∃ D b, refGo s n a (acc.map St.op) = some (D, b) ∧ ∃ o ∈ D, stOf o = none)
  | 0, a, acc => by
    refine ⟨fun l b h => ?_, fun h => by simp [decGo] at h⟩
    simp [decGo] at h
    rw [refGo, h.1, h.2]
  | n + 1, a, acc => by
    have hrel := rdO_rel s a
    rw [decGo, refGo]
    cases ht : tkS s a with
    | some r =>
      obtain ⟨st, q⟩ := r
      rw [hrel.1 st q ht]
      have ih := go_rel s n q (acc ++ [st])
      simp only [List.map_append, List.map_cons, List.map_nil] at ih
      exact ih
    | none =>
      refine ⟨fun l b h => by simp at h, fun _ => ?_⟩
      rcases hrel.2 ht with h | ⟨o, q, h, ho⟩
      · rw [h]; exact .inl rfl
      · rw [h]
        simp only
        cases hg : refGo s n q (acc.map St.op ++ [o]) with
        | none => exact .inl rfl
        | some r =>
          obtain ⟨D, b⟩ := r
          exact .inr ⟨D, b, rfl, o, refGo_pre s n q _ D b hg o (by simp), ho⟩
theorem op_inj {a b : St} (h : a.op = b.op) : a = b := by
  cases a <;> cases b <;> simp [St.op] at h <;> simp <;> first | exact h | omega
theorem map_op_inj : ∀ {a b : List St}, a.map St.op = b.map St.op → a = b
  | [], [], _ => rfl
  | [], _ :: _, h => by simp at h
  | _ :: _, [], h => by simp at h
  | x :: a, y :: b, h => by
    simp only [List.map_cons, List.cons.injEq] at h
    rw [op_inj h.1, map_op_inj h.2]
theorem decGo_of {s : ByteArray} : ∀ (n : Nat) (b : Nat) (acc l : List St) (q : Int), b ≤ s.size → decGo s n (b : Int) acc = some (l, q) → ∃ m, l = acc ++ m ∧ m.length = n ∧ (∀ st ∈ m, st.Raw) ∧ At s b (stsB m) ∧ q = ((b + (stsB m).length : Nat) : Int)
  | 0, b, acc, l, q, hb, h => by
    simp [decGo] at h
    obtain ⟨rfl, rfl⟩ := h
    exact ⟨[], by simp, rfl, by simp, at_nil s b hb, by simp [stsB]⟩
  | n + 1, b, acc, l, q, hb, h => by
    rw [decGo] at h
    cases ht : tkS s (b : Int) with
    | none => rw [ht] at h; simp at h
    | some r =>
      obtain ⟨st, q'⟩ := r
      rw [ht] at h
      obtain ⟨b', e1, hraw, hat, e2⟩ := tkS_of ht
      have hbb : b' = b := by omega
      subst hbb
      subst e2
      obtain ⟨m, h1, h2, h3, h4, h5⟩ := decGo_of n (b' + (stB st).length) _ l q (by have := hat.1; omega) h
      have e : stsB (st :: m) = stB st ++ stsB m := by simp [stsB]
      refine ⟨st :: m, by rw [h1]; simp, by simp [h2], fun x hx => ?_, by rw [e]; exact at_append.2 ⟨hat, h4⟩, by rw [h5, e, List.length_append]; omega⟩
      rcases List.mem_cons.1 hx with rfl | hx
      · exact hraw
      · exact h3 x hx
/-- The document's reading is the program's. -/
theorem ref_dec (s : ByteArray) : refR s = decR s := by
  rw [refR, decR]
  rcases pk.tk_cases s 0 1125899906842624 with ⟨n, p, hr, hk, _, hp, _⟩ | ⟨er, hr, her⟩
  · obtain ⟨b, m, e1, e2, _, h3, h4⟩ := pk.tk_of (by decide) hr
    have hb : b = 0 := by omega
    subst hb
    have hm : m = n := by omega
    subst hm
    rw [hr]
    simp only
    by_cases hbig : (3000 : Int) < (m : Int)
    · rw [if_pos (.inr hbig), if_pos (.inr hbig)]
    · rw [if_neg (by omega), if_neg (by omega), Int.toNat_natCast]
      have hrel := go_rel s m (p : Int) []
      simp only [List.map_nil] at hrel
      cases hd : decGo s m (p : Int) [] with
      | none =>
        rcases hrel.2 hd with h | ⟨D, b, h, o, ho, hs⟩
        · rw [h]; rfl
        · rw [h]
          have hne : chk D ≠ 0 := fun h0 => by
            have := (chk_any h0).1
            rw [List.any_eq_false] at this
            exact this o ho (by rw [hs]; rfl)
          simp only [refF, decF]
          rw [if_pos (.inl (by rw [encR, if_neg hne]; exact hne))]
      | some r =>
        obtain ⟨l, q⟩ := r
        rw [hrel.1 l q hd]
        obtain ⟨l', e3, hl, hraw, hat, hq⟩ := decGo_of m p [] l q hp hd
        rw [List.nil_append] at e3
        subst e3
        simp only [refF, decF]
        by_cases hc : chk (l.map St.op) = 0
        · have hst : stR (l.map St.op) = l := map_op_inj (stR_op hc)
          have hE : encR (l.map St.op) = (mk (encB l), 0) := by rw [encR, if_pos hc, hst]
          have hall : At s 0 (encB l) := by
            rw [encB, hl]
            refine at_append.2 ⟨h3, ?_⟩
            have : (0 + (numB m).length : Nat) = p := by omega
            rw [this]; exact hat
          have hlen : (encB l).length = q.toNat := by rw [encB, List.length_append, hl]; omega
          rw [hE]
          by_cases hqs : q = (s.size : Int)
          · have hex := at_extract hall
            rw [Nat.zero_add, hlen, show q.toNat = s.size by omega, extract_all] at hex
            rw [if_neg (by simp [← hex]), if_neg (by simp [hqs, hc])]
          · have hne : mk (encB l) ≠ s := fun e => by
              have := congrArg ByteArray.size e
              rw [mk_size] at this
              omega
            rw [if_pos (.inr hne), if_pos (.inl hqs)]
        · rw [if_pos (.inl (by rw [encR, if_neg hc]; exact hc)), if_pos (.inr hc)]
  · rw [hr]
    simp only
    rw [if_pos (.inl (by omega)), if_pos (.inl (by omega))]
end Go.Proofs.Ytdheddgdlindmaa

/-
  The walk of the reference's Decode.
-/
namespace Go.Proofs.Ytdheddgdlindmaa
open Go.ChangeShapes Go.WideShapes Go.ChangeAt Go.RowKit Go.PlainAid

theorem rdO_sm {s : ByteArray} {a q : Int} {o : OpD} (h : rdO s a = some (o, q)) : o.Sm := by
  rw [rdO] at h
  split at h
  · cases h
  · split at h
    · split at h
      · cases h
      · rename_i h1
        simp only [Option.some.injEq, Prod.mk.injEq] at h
        obtain ⟨rfl, rfl⟩ := h
        rcases tkT_cases s (pk.tk s a 1125899906842624).2.1 with ⟨t, q', ht⟩ | ⟨e, ht, he⟩
        · obtain ⟨_, _, g2, _⟩ := pk.tkT_of ht
          rw [ht]
          show t.size ≤ _
          omega
        · rw [ht] at h1
          simp [he] at h1
    · split at h
      · cases h
      · simp only [Option.some.injEq, Prod.mk.injEq] at h
        obtain ⟨rfl, rfl⟩ := h
        show ByteArray.size ⟨#[]⟩ ≤ _
        decide
theorem many_new2 (wr : World) (X : Obj) (l : List Value) (e : Nat) : ∀ j u, l[j]? = some u → ((wr.alloc X).alloc (.cells l.toArray e)).cell? ((⟨wr.heap.size + 1, 0, none⟩ : Addr).add j) = some u := by
  have := many_new (wr.alloc X) l e
  rw [World.size_alloc] at this
  exact this

set_option maxRecDepth 20000 in
set_option maxHeartbeats 2000000 in
theorem refDecode_any (s : ByteArray) (w : World) (hs : s.size ≤ maxLen) :
    Calls Try.prog 83 #[.string s] w fun e w' => ∃ u, e = .returned (.tuple #[u, .int .i64 (refR s).2]) ∧ w'.ownsRow w.heap.size 96 3 u (refR s).1.length (ocs (refR s).1) ∧ Below w.heap.size w w' := by
  obtain ⟨i0, hin, hz0, hz1, hz2⟩ := info_parts Try.infoOp
  have hN := pk.refNum_any s 0 w hs
  rcases pk.tk_cases s 0 1125899906842624 with ⟨n, p, hr, hk, _, hp, _⟩ | ⟨er, hr, her⟩
  · rw [hr] at hN
    simp only at hN
    by_cases hbig : (3000 : Int) < (n : Int)
    · have HR : refR s = ([], 90) := by rw [refR, hr]; exact if_pos (.inr hbig)
      rw [HR]
      clear HR hr
      go_enter Try.func83, Try.ntmps83
      go_wp2_with (go_at_call 81; refine hN.mono ?_; rintro e w1 ⟨rfl, rfl⟩)
      go_ret2
      exact ⟨_, rfl, World.ownsRow_nil _ _ _ _, Below.refl _ _⟩
    · have HR : Hid (refR s = refF s (refGo s n (p : Int) [])) := by
        show _ = _
        rw [refR, hr]
        simp only
        rw [if_neg (by omega), Int.toNat_natCast]
      have hn' : (n : Int) ≤ 3000 := by omega
      clear hr
      go_enter Try.func83, Try.ntmps83
      go_wp2_with (go_at_call 81; refine hN.mono ?_; rintro e w1 ⟨rfl, rfl⟩)
      clear hN
      go_loopw [5, 7, 8] (fun a d i wr => ∃ (k : Nat) (x : Int) (D : List OpD), k ≤ n ∧ i = .int .i64 (k : Int) ∧ a = .int .i64 x ∧ D.length = k ∧ (∀ o ∈ D, o.Sm) ∧ wr.ownsRow w.heap.size 96 3 d D.length (ocs D) ∧ Hid (refGo s n (p : Int) [] = refGo s (n - k) x D) ∧ Below w.heap.size w wr) (fun _ _ i _ => n - (intOf i).toNat)
      case atStart => exact ⟨0, p, [], by omega, rfl, rfl, rfl, by simp, World.ownsRow_nil _ _ _ _, rfl, Below.refl _ _⟩
      case round =>
        obtain ⟨k, x, D, hk, rfl, rfl, hlk, hsmD, hown, HG, hbl⟩ := hrel
        have hsz := hbl.size
        by_cases hlt : k < n
        · have hlt' : (k : Int) < (n : Int) := by omega
          have HG2 : Hid (refGo s n (p : Int) [] = match rdO s x with | none => none | some (o, q) => refGo s (n - (k + 1)) q (D ++ [o])) := by
            show _ = _
            rw [HG.out, show n - k = (n - (k + 1)) + 1 by omega, refGo]
            all_goals (cases rdO s x <;> rfl)
          clear HG
          have hT := fun W => pk.refNum_any s x W hs
          rcases pk.tk_cases s x 1125899906842624 with ⟨kd, p1, hr, hkd, _⟩ | ⟨er, hr, her⟩
          · rw [hr] at hT
            simp only at hT
            by_cases k2 : (kd : Int) = 2
            · have hX := fun W => pk.refText_any s (p1 : Int) W hs
              rw [k2] at hT
              rcases tkT_cases s (p1 : Int) with ⟨t, q, ht⟩ | ⟨e, ht, he⟩
              · have e2 : rdO s x = some (⟨2, 0, t⟩, q) := by
                  rw [rdO, hr]
                  simp only
                  rw [if_neg (by simp), if_pos k2, ht]
                  simp
                have HG3 : Hid (refGo s n (p : Int) [] = refGo s (n - (k + 1)) q (D ++ [⟨2, 0, t⟩])) := by show _ = _; rw [HG2.out, e2]
                have HS : Hid (∀ o ∈ D ++ [⟨2, 0, t⟩], o.Sm) := fun o ho => by
                  rcases List.mem_append.1 ho with h | h
                  · exact hsmD o h
                  · simp at h; subst h; exact rdO_sm e2
                rw [ht] at hX
                simp only at hX
                clear HG2 e2 hr ht k2 hsmD
                go_wp2_with (first | (go_at_call 81; refine (hT _).mono ?_; rintro e w2 ⟨rfl, rfl⟩) | (go_at_call 82; refine (hX _).mono ?_; rintro e w3 ⟨rfl, rfl⟩) | (at_builtin; refine wpList_append_own _ rfl (.tmp 63) (.tmp 65) 46 rfl w.heap.size 96 i0 (.agg #[.int .i64 0, .int .i64 0, .string ⟨#[]⟩]) 3 32 Try.underlying46 hin hz0 hz1 hz2 rfl (by decide) _ _ _ rfl ((hown.alloc _).alloc _) ⟨_, 0, none⟩ 1 1 [.int .i64 2, .int .i64 0, .string t] rfl rfl (many_new2 _ _ _ _) (three_one _ _ _) (by rw [hlk]; unfold maxLen; omega) (by rw [hlk]; omega) (by simp; omega) ?_; intro v4 w4 ho4 hg4 _))
                have R1 := own_op (o := ⟨2, 0, t⟩) ho4 rfl
                have R2 : Below w.heap.size w w4 := ((hbl.alloc hsz _).alloc (by simp; omega) _).grown hg4 (by simp; omega) (fun k hk => (hown.lt k hk).1)
                clear ho4 hg4 hown
                go_roundw
                case rel => exact ⟨k + 1, q, D ++ [⟨2, 0, t⟩], by omega, by go_num, rfl, by simp [hlk], HS.out, R1, HG3, R2⟩
                case measure => simp [intOf]; omega
              · have e2 : rdO s x = none := by
                  rw [rdO, hr]
                  simp only
                  rw [if_neg (by simp), if_pos k2, ht]
                  simp [he]
                have HR2 : Hid (refR s = ([], 90)) := by show _ = _; rw [HR.out, HG2.out, e2]; rfl
                rw [ht] at hX
                simp only at hX
                have hne : (e != 0) = true := by simpa using he
                clear HG2 e2 hr ht k2 hsmD HR
                go_wp2_with (first | (go_at_call 81; refine (hT _).mono ?_; rintro e w2 ⟨rfl, rfl⟩) | (go_at_call 82; refine (hX _).mono ?_; rintro e w3 ⟨rfl, rfl⟩))
                go_ret2
                exact ⟨_, by rw [HR2.out]; rfl, by rw [HR2.out]; exact World.ownsRow_nil _ _ _ _, hbl.alloc hsz _⟩
            · have k2' : ((kd : Int) == 2) = false := by simpa using k2
              have hX := fun W => pk.refNum_any s (p1 : Int) W hs
              rcases pk.tk_cases s (p1 : Int) 1125899906842624 with ⟨m, q, hq, hmm, _⟩ | ⟨e, hq, he⟩
              · have e2 : rdO s x = some (⟨(kd : Int), (m : Int), ⟨#[]⟩⟩, (q : Int)) := by
                  rw [rdO, hr]
                  simp only
                  rw [if_neg (by simp), if_neg k2, hq]
                  simp
                have HG3 : Hid (refGo s n (p : Int) [] = refGo s (n - (k + 1)) (q : Int) (D ++ [⟨(kd : Int), (m : Int), ⟨#[]⟩⟩])) := by show _ = _; rw [HG2.out, e2]
                have HS : Hid (∀ o ∈ D ++ [⟨(kd : Int), (m : Int), ⟨#[]⟩⟩], o.Sm) := fun o ho => by
                  rcases List.mem_append.1 ho with h | h
                  · exact hsmD o h
                  · simp at h; subst h; exact rdO_sm e2
                rw [hq] at hX
                simp only at hX
                clear HG2 e2 hr hq k2 hsmD
                go_wp2_with fail
                refine (hT _).mono ?_
                rintro e w2 ⟨rfl, rfl⟩
                go_wp2_with fail
                refine (hX _).mono ?_
                rintro e w2 ⟨rfl, hw2⟩
                rw [← hw2]
                clear hw2
                go_wp2_with (at_builtin; refine wpList_append_own _ rfl (.tmp 63) (.tmp 65) 46 rfl w.heap.size 96 i0 (.agg #[.int .i64 0, .int .i64 0, .string ⟨#[]⟩]) 3 32 Try.underlying46 hin hz0 hz1 hz2 rfl (by decide) _ _ _ rfl ((hown.alloc _).alloc _) ⟨_, 0, none⟩ 1 1 [.int .i64 (kd : Int), .int .i64 (m : Int), .string ⟨#[]⟩] rfl rfl (many_new2 _ _ _ _) (three_one _ _ _) (by rw [hlk]; unfold maxLen; omega) (by rw [hlk]; omega) (by simp; omega) ?_; intro v4 w4 ho4 hg4 _)
                have R1 := own_op (o := ⟨(kd : Int), (m : Int), ⟨#[]⟩⟩) ho4 rfl
                have R2 : Below w.heap.size w w4 := ((hbl.alloc hsz _).alloc (by simp; omega) _).grown hg4 (by simp; omega) (fun k hk => (hown.lt k hk).1)
                clear ho4 hg4 hown
                go_roundw
                case rel => exact ⟨k + 1, q, D ++ [⟨(kd : Int), (m : Int), ⟨#[]⟩⟩], by omega, by go_num, rfl, by simp [hlk], HS.out, R1, HG3, R2⟩
                case measure => simp [intOf]; omega
              · have e2 : rdO s x = none := by
                  rw [rdO, hr]
                  simp only
                  rw [if_neg (by simp), if_neg k2, hq, if_pos (by simp only; omega)]
                have HR2 : Hid (refR s = ([], 90)) := by show _ = _; rw [HR.out, HG2.out, e2]; rfl
                rw [hq] at hX
                simp only at hX
                have hne : (e != 0) = true := by simp; omega
                clear HG2 e2 hr hq k2 hsmD HR
                go_wp2_with fail
                refine (hT _).mono ?_
                rintro e w2 ⟨rfl, rfl⟩
                go_wp2_with fail
                refine (hX _).mono ?_
                rintro e w2 ⟨rfl, hw2⟩
                rw [← hw2]
                clear hw2
                go_wp2_with fail
                go_ret2
                exact ⟨_, by rw [HR2.out]; rfl, by rw [HR2.out]; exact World.ownsRow_nil _ _ _ _, hbl.alloc hsz _⟩
          · have e2 : rdO s x = none := by rw [rdO, hr, if_pos (by simp only; omega)]
            have HR2 : Hid (refR s = ([], 90)) := by show _ = _; rw [HR.out, HG2.out, e2]; rfl
            rw [hr] at hT
            simp only at hT
            have hne : (er != 0) = true := by simp; omega
            clear HG2 e2 hr hsmD HR
            go_wp2_with (go_at_call 81; refine (hT _).mono ?_; rintro e w2 ⟨rfl, rfl⟩)
            go_ret2
            exact ⟨_, by rw [HR2.out]; rfl, by rw [HR2.out]; exact World.ownsRow_nil _ _ _ _, hbl⟩
        · have e : k = n := by omega
          subst e
          rw [Nat.sub_self] at HG
          have HR2 : Hid (refR s = if (encR D).2 ≠ 0 ∨ (encR D).1 ≠ s then ([], 90) else (D, 0)) := by show _ = _; rw [HR.out, HG.out]; rfl
          have hE := refEncode_any _ D wr (rdd_own hown) (by unfold maxLen; omega) hsmD
          clear HG HR hsmD
          generalize encR D = r at *
          obtain ⟨r1, r2⟩ := r
          simp only at HR2 hE
          by_cases h2 : r2 = 0
          · subst h2
            by_cases h1 : r1 = s
            · subst h1
              have HR3 : Hid (refR r1 = (D, 0)) := by show _ = _; rw [HR2.out, if_neg (by simp)]
              clear HR2
              go_wp2_with (go_at_call 29; refine hE.mono ?_; rintro e w2 ⟨rfl, hb2⟩)
              go_ret2
              exact ⟨_, by rw [HR3.out]; rfl, by rw [HR3.out]; exact own_belowG hown hb2, hbl.trans (hb2.mono hsz)⟩
            · have HR3 : Hid (refR s = ([], 90)) := by show _ = _; rw [HR2.out, if_pos (.inr h1)]
              have hne : (r1.toList == s.toList) = false := by have := list_ne h1; simpa using this
              clear HR2 h1
              go_wp2_with (go_at_call 29; refine hE.mono ?_; rintro e w2 ⟨rfl, hb2⟩)
              go_ret2
              exact ⟨_, by rw [HR3.out]; rfl, by rw [HR3.out]; exact World.ownsRow_nil _ _ _ _, hbl.trans (hb2.mono hsz)⟩
          · have HR3 : Hid (refR s = ([], 90)) := by show _ = _; rw [HR2.out, if_pos (.inl h2)]
            have hne : (r2 != 0) = true := by simpa using h2
            clear HR2 h2
            go_wp2_with (go_at_call 29; refine hE.mono ?_; rintro e w2 ⟨rfl, hb2⟩)
            go_ret2
            exact ⟨_, by rw [HR3.out]; rfl, by rw [HR3.out]; exact World.ownsRow_nil _ _ _ _, hbl.trans (hb2.mono hsz)⟩
  · rw [hr] at hN
    simp only at hN
    have HR : refR s = ([], 90) := by rw [refR, hr]; exact if_pos (.inl (by simp only; omega))
    rw [HR]
    have hne : (er != 0) = true := by simp; omega
    clear HR hr
    go_enter Try.func83, Try.ntmps83
    go_wp2_with (go_at_call 81; refine hN.mono ?_; rintro e w1 ⟨rfl, rfl⟩)
    go_ret2
    exact ⟨_, rfl, World.ownsRow_nil _ _ _ _, Below.refl _ _⟩
end Go.Proofs.Ytdheddgdlindmaa
