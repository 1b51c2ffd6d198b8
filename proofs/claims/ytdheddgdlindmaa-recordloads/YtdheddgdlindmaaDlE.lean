/-
  The contracts of appendNums, appendStep and Encode.
-/
import Derived.Test.YtdheddgdlindmaaDMa
import Derived.Test.YtdheddgdlindmaaDArg
import Derived.Test.YtdheddgdlindmaaPkWrites
namespace Go.Proofs.Ytdheddgdlindmaa
open Go.ChangeShapes Go.WideShapes Go.ChangeAt Go.RowKit Go.PlainAid

/-- The forms of numbers. -/
def nmB (ns : List Nat) : List UInt8 := (ns.map numB).flatten
theorem nmB_take (ns : List Nat) (k : Nat) (h : k < ns.length) : nmB (ns.take (k + 1)) = nmB (ns.take k) ++ numB ns[k] := by
  rw [List.take_succ_eq_append_getElem h, nmB, List.map_append, List.flatten_append]; simp [nmB]
theorem nmB_len (ns : List Nat) : (nmB ns).length ≤ 10 * ns.length := by
  induction ns with
  | nil => simp [nmB]
  | cons n ns ih =>
    have e : nmB (n :: ns) = numB n ++ nmB ns := by simp [nmB]
    have := numB_len (n := n)
    rw [e, List.length_append, List.length_cons]; omega

theorem own_str {w1 : World} {base n : Nat} {v' : Value} {L : List UInt8} {M : List UInt8} (h : w1.ownsRow base 5 1 v' (n + (mk M).size) (bv L ++ Lib.strCells (mk M))) (hn : L.length = n) :
    w1.ownsRow base 5 1 v' (L ++ M).length (bv (L ++ M)) := own_text h hn
def nsV (ns : List Nat) : List Value := ns.map (fun n : Nat => Value.int .i64 (n : Int))

set_option maxRecDepth 20000 in
set_option maxHeartbeats 2000000 in
theorem appendNums_any (base p : Nat) (v : Value) (l : List UInt8) (ns : List Nat) (w : World) (hb : base ≤ w.heap.size) (hn : ∀ n ∈ ns, n ≤ 1125899906842624) (hns : ns.length ≤ 10) (hl : l.length ≤ 100000000)
    (hown : w.ownsRow base 5 1 v l.length (bv l)) (hp : w.heap[p]? = some (.cells (nsV ns).toArray 3)) :
    Calls Try.prog 88 #[v, .slice (some ⟨p, 0, none⟩) ns.length ns.length] w fun e w' => ∃ v', e = .returned v' ∧ w'.ownsRow base 5 1 v' (l ++ nmB ns).length (bv (l ++ nmB ns)) ∧ Below base w w' := by
  obtain ⟨i0, hin, hz0, hz1, hz2⟩ := info_parts Try.info5
  go_enter Try.func88, Try.ntmps88
  go_wp2
  go_loopw [0, 11] (fun d i wr => ∃ k : Nat, k ≤ ns.length ∧ i = .int .i64 (k : Int) ∧ wr.ownsRow base 5 1 d (l ++ nmB (ns.take k)).length (bv (l ++ nmB (ns.take k))) ∧ wr.heap[p]? = some (.cells (nsV ns).toArray 3) ∧ base ≤ wr.heap.size ∧ Below base w wr) (fun _ i _ => ns.length - (intOf i).toNat)
  case atStart => exact ⟨0, by omega, rfl, by simpa [nmB] using hown, hp, hb, Below.refl _ _⟩
  case round =>
    obtain ⟨k, hk, rfl, ho, hpr, hbs, hbl⟩ := hrel
    clear hown hp
    by_cases hlt : k < ns.length
    · have hlt' : (k : Int) < (ns.length : Int) := by omega
      have hN := hn ns[k] (List.getElem_mem hlt)
      have c0 : wr.cell? ⟨p, k, none⟩ = some (.int .i64 (ns[k] : Int)) := by
        rw [cell_of_row _ _ k _ _ (0, 0) hpr]
        simp [nsV, hlt]
      have HT : Hid (nmB (ns.take (k + 1)) = nmB (ns.take k) ++ numB ns[k]) := nmB_take ns k hlt
      have hlen : (l ++ nmB (ns.take k)).length ≤ 100000100 := by
        have := nmB_len (ns.take k)
        rw [List.length_take] at this
        rw [List.length_append]; omega
      have hnl := numB_len (n := ns[k])
      generalize ns[k] = N at *
      have hc := pk.num_ok N wr hN
      have hmk := mk_size (numB N)
      generalize hX : l ++ nmB (ns.take k) = X at *
      have HX : Hid (l ++ nmB (ns.take (k + 1)) = X ++ numB N) := by show _ = _; rw [HT.out, ← List.append_assoc, hX]
      clear hX HT hn
      go_wp2_with (first | (go_at_call 70; refine hc.mono ?_; rintro e w1 ⟨rfl, hb1⟩; have ho1 := own_belowG ho hb1; have hs1 := hb1.size; have hp1 := (hb1.block p (heap_lt hpr)).trans hpr) | (at_builtin; refine Lib.wpList_append_own_string _ rfl (.tmp 20) (.tmp 21) 52 9 rfl base 5 i0 Try.underlying52 Try.underlying9 hin hz0 hz1 hz2 _ _ _ rfl ho1 (mk (numB N)) rfl (by rw [hmk]; unfold maxLen; omega) (by rw [hmk]; omega) (by omega) ?_; intro v4 w4 ho4 hg4 _))
      have R1 := own_str ho4 rfl
      have R2 : Below base w w4 := (hbl.trans (hb1.mono hbs)).grown hg4 (by omega) (fun k hk => (ho1.lt k hk).1)
      have R3 : w4.heap[p]? = some (.cells (nsV ns).toArray 3) := by rw [hg4.block p (heap_lt hp1) (box_apart ho1 hp1 (by decide))]; exact hp1
      have R4 : base ≤ w4.heap.size := by have := hg4.size; omega
      clear ho4 hg4 ho1 ho
      go_roundw
      case rel => exact ⟨k + 1, by omega, by go_num, by rw [HX.out]; exact R1, R3, R4, R2⟩
      case measure => simp [intOf]; omega
    · have e : k = ns.length := by omega
      subst e
      rw [List.take_length] at ho
      clear hn
      go_wp2
      go_ret
      exact ⟨_, rfl, ho, hbl⟩

/-- The form of a step. -/
def stB : St → List UInt8
  | .keep n => nmB [1, n]
  | .rem n => nmB [3, n]
  | .ins t => nmB [2] ++ pk.textB t
/-- The form of steps. -/
def stsB (l : List St) : List UInt8 := (l.map stB).flatten
theorem stsB_take (l : List St) (k : Nat) (h : k < l.length) : stsB (l.take (k + 1)) = stsB (l.take k) ++ stB l[k] := by
  rw [List.take_succ_eq_append_getElem h, stsB, List.map_append, List.flatten_append]; simp [stsB]
theorem stB_len {s : St} (h : ∀ t, s = .ins t → t.size ≤ 20000) : (stB s).length ≤ 20020 := by
  cases s with
  | keep n => have := nmB_len [1, n]; simp only [stB]; simp at this ⊢; omega
  | rem n => have := nmB_len [3, n]; simp only [stB]; simp at this ⊢; omega
  | ins t => have h1 := nmB_len [2]; have h2 := pk.textB_len t; have := h t rfl; simp only [stB, List.length_append]; simp at h1; omega
theorem stsB_len : ∀ {l : List St}, (∀ s ∈ l, ∀ t, s = .ins t → t.size ≤ 20000) → (stsB l).length ≤ 20020 * l.length
  | [], _ => by simp [stsB]
  | s :: l, h => by
    have h1 := stB_len (h s (by simp))
    have h2 := stsB_len (l := l) (fun x hx => h x (by simp [hx]))
    have e : stsB (s :: l) = stB s ++ stsB l := by simp [stsB]
    rw [e, List.length_append, List.length_cons]; omega

set_option maxRecDepth 20000 in
set_option maxHeartbeats 4000000 in
theorem appendStep_any (base : Nat) (v : Value) (l : List UInt8) (s : St) (w : World) (hb : base ≤ w.heap.size) (hs : s.Ok) (ht : ∀ t, s = .ins t → t.size ≤ 20000) (hl : l.length ≤ 90000000)
    (hown : w.ownsRow base 5 1 v l.length (bv l)) :
    Calls Try.prog 89 #[v, s.val] w fun e w' => ∃ v', e = .returned v' ∧ w'.ownsRow base 5 1 v' (l ++ stB s).length (bv (l ++ stB s)) ∧ Below base w w' := by
  obtain ⟨i0, hin, hz0, hz1, hz2⟩ := info_parts Try.info5
  have kk := ta_kk
  have rk := ta_rk
  have rr := ta_rr
  have ik := ta_ik
  have ir := ta_ir
  have ii := ta_ii
  cases s with
  | keep n =>
    simp only [St.Ok] at hs
    simp only [St.val, stB]
    have hA := appendNums_any base w.heap.size v l [1, n] (w.alloc (.cells (nsV [1, n]).toArray 3)) (by simp; omega) (by intro x hx; simp at hx; omega) (by simp) (by omega) (hown.alloc _) (heap_alloc_new w _)
    have hG : Below base w (w.alloc (.cells (nsV [1, n]).toArray 3)) := (Below.refl _ _).alloc hb _
    clear hown ht
    go_enter Try.func89, Try.ntmps89
    go_wp2_with (go_at_call 88; refine hA.mono ?_; rintro e w1 ⟨u, rfl, ho1, hb1⟩)
    go_ret
    exact ⟨_, rfl, ho1, hG.trans hb1⟩
  | rem n =>
    simp only [St.Ok] at hs
    simp only [St.val, stB]
    have hA := appendNums_any base w.heap.size v l [3, n] (w.alloc (.cells (nsV [3, n]).toArray 3)) (by simp; omega) (by intro x hx; simp at hx; omega) (by simp) (by omega) (hown.alloc _) (heap_alloc_new w _)
    have hG : Below base w (w.alloc (.cells (nsV [3, n]).toArray 3)) := (Below.refl _ _).alloc hb _
    clear hown ht
    go_enter Try.func89, Try.ntmps89
    go_wp2_with (go_at_call 88; refine hA.mono ?_; rintro e w1 ⟨u, rfl, ho1, hb1⟩)
    go_ret
    exact ⟨_, rfl, ho1, hG.trans hb1⟩
  | ins t =>
    have ht' := ht t rfl
    simp only [St.val, stB]
    have hT := pk.text_any t w (by unfold maxLen; omega)
    have eT : pk.textR t = (mk (pk.textB t), 0) := by rw [pk.textR, if_pos ht']
    rw [eT] at hT
    simp only at hT
    have htl := pk.textB_len t
    have hmk := mk_size (pk.textB t)
    have hA := fun W h1 h2 => appendNums_any base W.heap.size v l [2] (W.alloc (.cells (nsV [2]).toArray 3)) h1 (by intro x hx; simp at hx; omega) (by simp) (by omega) h2 (heap_alloc_new W _)
    have hn2 := nmB_len [2]
    have hX : (l ++ nmB [2]).length ≤ 90000010 := by rw [List.length_append]; simp at hn2; omega
    have HE : Hid (l ++ (nmB [2] ++ pk.textB t) = (l ++ nmB [2]) ++ pk.textB t) := by show _ = _; simp
    clear ht eT hs
    generalize l ++ nmB [2] = X at *
    go_enter Try.func89, Try.ntmps89
    go_wp2_with (first | (go_at_call 72; refine hT.mono ?_; rintro e w1 ⟨rfl, hb1⟩; have ho1 := own_belowG hown hb1; have hs1 := hb1.size) | (go_at_call 88; refine (hA _ (by simp; omega) (ho1.alloc _)).mono ?_; rintro e w2 ⟨u, rfl, ho2, hb2⟩; have hs2 := hb2.size; simp only [World.size_alloc] at hs2) | (at_builtin; refine Lib.wpList_append_own_string _ rfl (.tmp 35) (.tmp 36) 52 9 rfl base 5 i0 Try.underlying52 Try.underlying9 hin hz0 hz1 hz2 _ _ _ rfl ho2 (mk (pk.textB t)) rfl (by rw [hmk]; unfold maxLen; omega) (by rw [hmk]; omega) (by omega) ?_; intro v4 w4 ho4 hg4 _))
    have R1 := own_str ho4 rfl
    have R2 : Below base w w4 := (((Below.refl _ _).trans (hb1.mono hb)).alloc (by omega) _ |>.trans hb2).grown hg4 (by omega) (fun k hk => (ho2.lt k hk).1)
    go_ret
    exact ⟨_, rfl, by rw [HE.out]; exact R1, R2⟩

/-- The form of a delta. -/
def encB (l : List St) : List UInt8 := numB l.length ++ stsB l
/-- What Encode gives. -/
def encR (ds : List OpD) : ByteArray × Int := if chk ds = 0 then (mk (encB (stR ds)), 0) else (⟨#[]⟩, chk ds)
theorem nmB_one (n : Nat) : nmB [n] = numB n := by simp [nmB]
theorem ins_small {ds : List OpD} (hi : ∀ o ∈ ds, o.In) : ∀ s ∈ stR ds, ∀ t, s = .ins t → t.size ≤ 20000 := by
  intro s hs t e
  subst e
  have h1 := stR_ok hi _ hs
  have h2 := stR_bd ds
  have h3 : St.c (.ins t) ≤ tsum (stR ds) := by
    generalize stR ds = l at *
    clear hi h1 h2
    induction l with
    | nil => simp at hs
    | cons x l ih =>
      have e : tsum (x :: l) = x.c + tsum l := by simp [tsum]
      rcases List.mem_cons.1 hs with rfl | h
      · omega
      · have := ih h; omega
  simp only [St.Ok] at h1
  simp only [St.c] at h3
  have := size_cpl h1.1
  omega

set_option maxRecDepth 20000 in
set_option maxHeartbeats 4000000 in
theorem encode_any (v : Value) (ds : List OpD) (w : World) (hr : RdD w v ds) (hm : ds.length ≤ maxLen) (hi : ∀ o ∈ ds, o.In) :
    Calls Try.prog 75 #[v] w fun e w' => e = .returned (.tuple #[.string (encR ds).1, .int .i64 (encR ds).2]) ∧ Below w.heap.size w w' := by
  have hS := stepsOf_any v ds w hr hm hi
  by_cases c : chk ds = 0
  · have HR : Hid (encR ds = (mk (encB (stR ds)), 0)) := by show _ = _; rw [encR, if_pos c]
    have hok := stR_ok hi
    have hsm := ins_small hi
    have hln := stR_len ds
    rw [c] at hS
    generalize stR ds = l at *
    clear hi hr hm c
    go_enter Try.func75, Try.ntmps75
    go_wp2_with (first | (go_at_call 84; refine hS.mono ?_; rintro e w2 ⟨u, rfl, ho2, hb2⟩; have hrd := rdv_own ho2; obtain ⟨ao, cp, rfl, hc⟩ := hrd; rw [sv_length] at ho2 ⊢) | (go_at_call 88; refine (appendNums_any w2.heap.size w2.heap.size _ [] [l.length] _ (by simp) (by intro x hx; simp at hx; omega) (by simp) (by simp) (World.ownsRow_nil _ _ _ _) (heap_alloc_new w2 _)).mono ?_; rintro e w3 ⟨u3, rfl, ho3, hb3⟩))
    have hB2 := hb2
    rw [List.nil_append, nmB_one] at ho3
    have hb3' : Below w2.heap.size w2 w3 := ((Below.refl _ _).alloc (Nat.le_refl _) _).trans hb3
    have hs3 := hb3'.size
    clear hb3 hS
    go_loopw [6, 23] (fun d i wr => ∃ k : Nat, k ≤ l.length ∧ i = .int .i64 (k : Int) ∧ wr.ownsRow w2.heap.size 5 1 d (numB l.length ++ stsB (l.take k)).length (bv (numB l.length ++ stsB (l.take k))) ∧ Below w2.heap.size w2 wr) (fun _ i _ => l.length - (intOf i).toNat)
    case atStart => exact ⟨0, by omega, rfl, by simpa [stsB] using ho3, hb3'⟩
    case round =>
      obtain ⟨k, hk, rfl, ho, hbl⟩ := hrel
      clear ho3 hb3'
      have hsz := hbl.size
      by_cases hlt : k < l.length
      · have hlt' : (k : Int) < (l.length : Int) := by omega
        have hsk := hok l[k] (List.getElem_mem hlt)
        have hik := hsm l[k] (List.getElem_mem hlt)
        have HT : Hid (stsB (l.take (k + 1)) = stsB (l.take k) ++ stB l[k]) := stsB_take l k hlt
        have hlen : (numB l.length ++ stsB (l.take k)).length ≤ 70000000 := by
          have h1 := stsB_len (l := l.take k) (fun s hs => hsm s (List.mem_of_mem_take hs))
          have h2 := numB_len (n := l.length)
          rw [List.length_take] at h1
          rw [List.length_append]; omega
        obtain ⟨b, off, rfl, hbb, c0'⟩ := hc k (l[k]).val (by simp [sv, hlt])
        have c0 := (hbl.cell (p := ⟨b, off + k, none⟩) hbb).trans c0'
        clear c0' hc
        generalize l[k] = s at hsk hik HT c0
        generalize hX : numB l.length ++ stsB (l.take k) = X at *
        have HX : Hid (numB l.length ++ stsB (l.take (k + 1)) = X ++ stB s) := by show _ = _; rw [HT.out, ← List.append_assoc, hX]
        have hA := appendStep_any w2.heap.size _ X s wr hsz hsk hik (by omega) ho
        clear hX HT hsm hok
        generalize s.val = sx at *
        go_wp2_with (go_at_call 89; refine hA.mono ?_; rintro e w4 ⟨u4, rfl, ho4, hb4⟩)
        go_roundw
        case rel => exact ⟨k + 1, by omega, by go_num, by rw [HX.out]; exact ho4, hbl.trans hb4⟩
        case measure => simp [intOf]; omega
      · have e : k = l.length := by omega
        subst e
        rw [List.take_length] at ho
        have hcv := conv_own (dst := 9) Try.underlying52 Try.underlying5 Try.underlying9 ho
        clear hc hok hsm ho
        go_wp2
        go_ret2
        exact ⟨by rw [HR.out]; rfl, hB2.trans (hbl.mono hB2.size)⟩
  · have e : encR ds = (⟨#[]⟩, chk ds) := by rw [encR, if_neg c]
    rw [e]
    have hne : (chk ds != 0) = true := by simpa using c
    clear e
    generalize chk ds = x at *
    go_enter Try.func75, Try.ntmps75
    go_wp2_with (go_at_call 84; refine hS.mono ?_; rintro e w2 ⟨u, rfl, ho2, hb2⟩)
    go_ret2
    exact ⟨rfl, hb2⟩
end Go.Proofs.Ytdheddgdlindmaa

/-
  The form of a delta that may be is short.
-/
namespace Go.Proofs.Ytdheddgdlindmaa
open Go.ChangeShapes Go.WideShapes Go.ChangeAt Go.RowKit Go.PlainAid

theorem numB_len2 {n : Nat} (h : n < 16384) : (numB n).length ≤ 2 := numF_len_of 1 9 n (by omega)
theorem stB_small {s : St} (h : s.Ok) (hc : s.c ≤ 1000) : (stB s).length ≤ 3 * s.b + 7 * s.c := by
  cases s with
  | keep n =>
    simp only [St.Ok] at h
    have h1 := numB_len2 (n := n) (by omega)
    have h2 : (numB 1).length = 1 := by decide
    simp only [stB, nmB, St.b, St.c, List.map_cons, List.map_nil, List.flatten_cons, List.flatten_nil, List.append_nil, List.length_append]
    omega
  | rem n =>
    simp only [St.Ok] at h
    have h1 := numB_len2 (n := n) (by omega)
    have h2 : (numB 3).length = 1 := by decide
    simp only [stB, nmB, St.b, St.c, List.map_cons, List.map_nil, List.flatten_cons, List.flatten_nil, List.append_nil, List.length_append]
    omega
  | ins t =>
    simp only [St.Ok] at h
    simp only [St.c] at hc
    have h0 := size_cpl h.1
    have h1 := numB_len2 (n := t.size) (by omega)
    have h2 : (numB 2).length = 1 := by decide
    have h3 : t.data.toList.length = t.size := by rw [Array.length_toList]; rfl
    simp only [stB, nmB, pk.textB, St.b, St.c, List.map_cons, List.map_nil, List.flatten_cons, List.flatten_nil, List.append_nil, List.length_append, h3]
    omega
theorem stsB_small : ∀ {l : List St}, (∀ s ∈ l, s.Ok) → tsum l ≤ 1000 → (stsB l).length ≤ 3 * bsum l + 7 * tsum l
  | [], _, _ => by simp [stsB]
  | s :: l, h, ht => by
    have e1 : stsB (s :: l) = stB s ++ stsB l := by simp [stsB]
    have e2 : bsum (s :: l) = s.b + bsum l := by simp [bsum]
    have e3 : tsum (s :: l) = s.c + tsum l := by simp [tsum]
    have h1 := stB_small (h s (by simp)) (by omega)
    have h2 := stsB_small (l := l) (fun x hx => h x (by simp [hx])) (by omega)
    rw [e1, e2, e3, List.length_append]
    omega
/-- The form of a delta that may be is short. -/
theorem encB_small {ds : List OpD} (hi : ∀ o ∈ ds, o.In) : (encB (stR ds)).length ≤ 10010 := by
  have h1 := stR_bd ds
  have h2 := stsB_small (stR_ok hi) h1.2
  have h3 := numB_len2 (n := (stR ds).length) (by have := stR_len ds; omega)
  rw [encB, List.length_append]
  omega
end Go.Proofs.Ytdheddgdlindmaa
