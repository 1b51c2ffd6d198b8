/-
  The form of a message, and the contract of wire.Encode.
-/
import Derived.Test.YtaopfdgebibpeaaWrBWrC
namespace Go.Proofs.Ytaopfdgebibpeaa
open Go.ChangeShapes Go.WideShapes Go.ChangeAt Go.RowKit Go.PlainAid

theorem numB_len2 {n : Nat} (h : n < 16384) : (numB n).length ≤ 2 := numF_len_of 1 9 n (by omega)
theorem stB_small {s : St} (h : s.Ok) (hc : s.c ≤ 1000) : (stB s).length ≤ 3 * s.b + 7 * s.c := by
  cases s with
  | keep n =>
    simp only [St.Ok] at h
    have h1 := numB_len2 (n := n) (by omega)
    have h2 : (numB 1).length = 1 := by decide
    simp only [stB, nmB, St.b, St.c, List.map_cons, List.map_nil, List.flatten_cons, List.flatten_nil, List.append_nil, List.length_append]
    omega
  | rem n =>
    simp only [St.Ok] at h
    have h1 := numB_len2 (n := n) (by omega)
    have h2 : (numB 3).length = 1 := by decide
    simp only [stB, nmB, St.b, St.c, List.map_cons, List.map_nil, List.flatten_cons, List.flatten_nil, List.append_nil, List.length_append]
    omega
  | ins t =>
    simp only [St.Ok] at h
    simp only [St.c] at hc
    have h0 := size_cpl h.1
    have h1 := numB_len2 (n := t.size) (by omega)
    have h2 : (numB 2).length = 1 := by decide
    have h3 : t.data.toList.length = t.size := by rw [Array.length_toList]; rfl
    simp only [stB, nmB, pk.textB, St.b, St.c, List.map_cons, List.map_nil, List.flatten_cons, List.flatten_nil, List.append_nil, List.length_append, h3]
    omega
theorem stsB_small : ∀ {l : List St}, (∀ s ∈ l, s.Ok) → tsum l ≤ 1000 → (stsB l).length ≤ 3 * bsum l + 7 * tsum l
  | [], _, _ => by simp [stsB]
  | s :: l, h, ht => by
    have e1 : stsB (s :: l) = stB s ++ stsB l := by simp [stsB]
    have e2 : bsum (s :: l) = s.b + bsum l := by simp [bsum]
    have e3 : tsum (s :: l) = s.c + tsum l := by simp [tsum]
    have h1 := stB_small (h s (by simp)) (by omega)
    have h2 := stsB_small (l := l) (fun x hx => h x (by simp [hx])) (by omega)
    rw [e1, e2, e3, List.length_append]
    omega
/-- The form of a delta that may be is short. -/
theorem encB_small {ds : List OpD} (hi : ∀ o ∈ ds, o.In) : (encB (stR ds)).length ≤ 10010 := by
  have h1 := stR_bd ds
  have h2 := stsB_small (stR_ok hi) h1.2
  have h3 := numB_len2 (n := (stR ds).length) (by have := stR_len ds; omega)
  rw [encB, List.length_append]
  omega

/-- A message's fields that are numbers. -/
def MsD.at (m : MsD) : Nat → Int
  | 0 => m.k
  | 1 => m.b
  | 2 => m.c
  | 3 => m.s
  | 4 => m.r
  | 5 => m.y
  | _ => 0
/-- The numbers of a form. -/
def MsD.ns (m : MsD) (fs : List Nat) : List Nat := fs.map (fun f => (m.at f).toNat)
/-- The form. -/
def frmB (m : MsD) : List UInt8 := nmB (m.ns (0 :: bkF m.k)) ++ (if hdM m.k = true then pk.textB (mk (encB (stR m.d))) else [])
/-- What Encode answers. -/
def weR (m : MsD) : ByteArray × Int := if mayM m = true then (mk (frmB m), 0) else (⟨#[]⟩, 160)

theorem may_parts {m : MsD} (h : mayM m = true) : 1 ≤ m.b ∧ m.b ≤ 1000000 ∧ 1 ≤ m.c ∧ m.c ≤ 8 ∧ chk m.d = 0 ∧ 0 ≤ m.r ∧ m.r ≤ 1000000 ∧ 0 ≤ m.s ∧ m.s ≤ 100000 ∧ 0 ≤ m.y ∧ m.y ≤ 8 ∧ (m.k = 1 ∨ (m.k = 2 ∧ m.s = 0 ∧ m.d.length = 0) ∨ m.k = 3) ∧ (m.k ≠ 3 → m.y = 0) := by
  simp only [mayM, Bool.and_eq_true, wi_iff, decide_eq_true_eq] at h
  obtain ⟨⟨⟨h1, h2⟩, h3⟩, h4⟩ := h
  unfold kiM at h4
  split at h4
  · simp only [Bool.and_eq_true, wi_iff, decide_eq_true_eq] at h4
    refine ⟨by omega, by omega, by omega, by omega, h3, by omega, by omega, by omega, by omega, by omega, by omega, by omega, by omega⟩
  · split at h4
    · simp only [Bool.and_eq_true, wi_iff, decide_eq_true_eq] at h4
      refine ⟨by omega, by omega, by omega, by omega, h3, by omega, by omega, by omega, by omega, by omega, by omega, by omega, by omega⟩
    · split at h4
      · simp only [Bool.and_eq_true, wi_iff, edM] at h4
        obtain ⟨h5, h6⟩ := h4
        split at h6
        · simp only [decide_eq_true_eq] at h6
          refine ⟨by omega, by omega, by omega, by omega, h3, by omega, by omega, by omega, by omega, by omega, by omega, by omega, by omega⟩
        · simp only [Bool.and_eq_true, wi_iff] at h6
          refine ⟨by omega, by omega, by omega, by omega, h3, by omega, by omega, by omega, by omega, by omega, by omega, by omega, by omega⟩
      · cases h4
theorem may_at {m : MsD} (h : mayM m = true) (f : Nat) : 0 ≤ m.at f ∧ m.at f ≤ 1000000 := by
  have := may_parts h
  match f with
  | 0 => show 0 ≤ m.k ∧ m.k ≤ _; omega
  | 1 => show 0 ≤ m.b ∧ m.b ≤ _; omega
  | 2 => show 0 ≤ m.c ∧ m.c ≤ _; omega
  | 3 => show 0 ≤ m.s ∧ m.s ≤ _; omega
  | 4 => show 0 ≤ m.r ∧ m.r ≤ _; omega
  | 5 => show 0 ≤ m.y ∧ m.y ≤ _; omega
  | f + 6 => show (0 : Int) ≤ 0 ∧ (0 : Int) ≤ _; omega
theorem MB.cell {W : World} {p : Nat} {m : MsD} {v : Value} (h : MB W p m v) (f : Nat) (hf : f ≤ 5) : W.cell? ⟨p, f, none⟩ = some (.int .i64 (m.at f)) := by
  obtain ⟨c0, c1, c2, c3, c4, c5, -⟩ := h.cells
  match f, hf with
  | 0, _ => exact c0
  | 1, _ => exact c1
  | 2, _ => exact c2
  | 3, _ => exact c3
  | 4, _ => exact c4
  | 5, _ => exact c5
theorem bkF_le (k : Int) : ∀ f ∈ bkF k, f ≤ 5 := by
  unfold bkF
  split
  · decide
  · split <;> decide
theorem bkF_len (k : Int) : (bkF k).length ≤ 5 := by
  unfold bkF
  split
  · decide
  · split <;> decide
/-- The row that put wants. -/
theorem MB.row {W : World} {p : Nat} {m : MsD} {v : Value} (h : MB W p m v) (hM : mayM m = true) (fs : List Nat) (hf : ∀ f ∈ fs, f ≤ 5) : ∀ (i f n : Nat), fs[i]? = some f → (m.ns fs)[i]? = some n → W.cell? ⟨p, f, none⟩ = some (.int .i64 (n : Int)) := by
  intro i f n h1 h2
  have h3 : n = (m.at f).toNat := by
    simp only [MsD.ns, List.getElem?_map, h1, Option.map_some, Option.some.injEq] at h2
    exact h2.symm
  have h4 := h.cell f (hf f (List.mem_of_getElem? h1))
  have h5 := may_at hM f
  rw [h4, h3, Int.toNat_of_nonneg h5.1]
theorem ns_le {m : MsD} (hM : mayM m = true) (fs : List Nat) : ∀ n ∈ m.ns fs, n ≤ 1125899906842624 := by
  intro n hn
  simp only [MsD.ns, List.mem_map] at hn
  obtain ⟨f, -, rfl⟩ := hn
  have := may_at hM f
  omega
theorem ns_len (m : MsD) (fs : List Nat) : (m.ns fs).length = fs.length := by simp [MsD.ns]
theorem frmB_len (m : MsD) (hi : ∀ o ∈ m.d, o.In) : (frmB m).length ≤ 10100 := by
  have h1 := nmB_len (m.ns (0 :: bkF m.k))
  have h2 := bkF_len m.k
  have h3 := encB_small hi
  have h4 := pk.textB_len (mk (encB (stR m.d)))
  rw [mk_size] at h4
  rw [ns_len, List.length_cons] at h1
  rw [frmB, List.length_append]
  split <;> (try simp only [List.length_nil]) <;> omega

set_option maxRecDepth 20000 in
set_option maxHeartbeats 1000000 in
theorem wencode_any (m : MsD) (v : Value) (w : World) (hr : RdD w v m.d) (hm : m.d.length ≤ maxLen) (hi : ∀ o ∈ m.d, o.In) :
    Calls Try.prog 6 #[.agg (m.fs v)] w fun e w' => e = .returned (.tuple #[.string (weR m).1, .int .i64 (weR m).2]) ∧ Below w.heap.size w w' := by
  obtain ⟨i0, hin, hz0, hz1, hz2⟩ := info_parts Try.info5
  have hB : Below w.heap.size w (w.alloc (.cells (m.fs v) 34)) := (Below.refl _ w).alloc (Nat.le_refl _) _
  have hx : MB _ _ m v := heap_alloc_new w (.cells (m.fs v) 34)
  have hr1 := hr.below hB
  have hc := mayBe_any m v _ hr1 hm hi
  have hsz : (w.alloc (.cells (m.fs v) 34)).heap.size = w.heap.size + 1 := by simp
  obtain ⟨ao, cp, hv, -⟩ := hr
  subst hv
  cases hM : mayM m
  · have HR : Hid (weR m = (⟨#[]⟩, 160)) := by show _ = _; rw [weR, hM]; rfl
    rw [hM] at hc
    clear hM hx hr1
    unfold MsD.fs at hc hB hsz ⊢
    go_enter Try.func6, Try.ntmps6
    go_wp2_with fail
    refine hc.mono ?_
    rintro e w2 ⟨rfl, hb2⟩
    clear hc
    go_wp2_with fail
    go_ret2
    exact ⟨by rw [HR.out]; rfl, hB.trans (hb2.mono (by omega))⟩
  have HR : Hid (weR m = (mk (frmB m), 0)) := by show _ = _; rw [weR, hM]; rfl
  rw [hM] at hc
  have HM : Hid (mayM m = true) := hM
  clear hM
  unfold MsD.fs at hc hB hsz hx hr1 ⊢
  go_enter Try.func6, Try.ntmps6
  go_wp2_with fail
  generalize w.alloc (.cells #[.int .i64 m.k, .int .i64 m.b, .int .i64 m.c, .int .i64 m.s, .int .i64 m.r, .int .i64 m.y, .slice ao m.d.length cp] 34) = w1 at *
  refine hc.mono ?_
  rintro e w2 ⟨rfl, hb2⟩
  have hs2 := hb2.size
  have hB2 : Below w.heap.size w w2 := hB.trans (hb2.mono (by omega))
  have hx2 := hx.below hb2
  have hr2 := hr1.below hb2
  clear hc hx hr1 hb2
  have hu := own_lit w2 w2.heap.size 56 (ptV w.heap.size [0]) 1 (Nat.le_refl _) rfl (by decide)
  have hx3 := hx2.alloc (.cells (ptV w.heap.size [0]).toArray 56)
  have hp := put_any w2.heap.size w.heap.size (.slice none 0 0) _ [] [0] (m.ns [0]) _ (by simp) (by omega) rfl (hx3.row HM.out [0] (by decide)) (ns_le HM.out _) (by simp [MsD.ns]) (by simp) (World.ownsRow_nil _ _ _ _) hu
  go_wp2_with fail
  refine hp.mono ?_
  rintro e w3 ⟨v3, rfl, ho3, hb3⟩
  have hb3' : Below w2.heap.size w2 w3 := ((Below.refl _ _).alloc (Nat.le_refl _) _).trans hb3
  have hs3 := hb3'.size
  have hk := behindKind_any w.heap.size m _ w3 (hx2.below hb3')
  clear hp hb3 hu hx3
  go_wp2_with fail
  refine hk.mono ?_
  rintro e w4 ⟨u4, rfl, hu4, hb4⟩
  have ho4 := own_belowG ho3 hb4
  have hb4' : Below w2.heap.size w2 w4 := hb3'.trans (hb4.mono hs3)
  have hs4 := hb4.size
  have hu5 := own_lower hu4 hs3
  rw [← ns_len m] at hu5
  have hp := put_any w2.heap.size w.heap.size v3 u4 _ (bkF m.k) (m.ns (bkF m.k)) w4 (by omega) (by omega) (ns_len _ _).symm ((hx2.below hb4').row HM.out _ (bkF_le _)) (ns_le HM.out _) (by rw [ns_len]; have := bkF_len m.k; omega) (by have := nmB_len (m.ns [0]); rw [ns_len] at this; simp at this ⊢; omega) ho4 hu5
  clear hk hu4 hu5 hb3' ho3 hb4 ho4
  go_wp2_with fail
  refine hp.mono ?_
  rintro e w5 ⟨v5, rfl, ho5, hb5⟩
  have hb5' : Below w2.heap.size w2 w5 := hb4'.trans hb5
  have hs5 := hb5'.size
  clear hp hb4' hb5
  have hx5 := hx2.below hb5'
  have hr5 := hr2.below hb5'
  have hB5 : Below w.heap.size w w5 := hB2.trans (hb5'.mono (by omega))
  clear hx2 hr2 hB2
  obtain ⟨c0, c1, c2, c3, c4, c5, c6⟩ := hx5.cells
  have hd := hasDelta_any m (.slice ao m.d.length cp) w5
  unfold MsD.fs at hd
  have HL : Hid ([] ++ nmB (m.ns [0]) ++ nmB (m.ns (bkF m.k)) = nmB (m.ns (0 :: bkF m.k))) := by
    show _ = _
    simp [MsD.ns, nmB]
  have hll : ([] ++ nmB (m.ns [0]) ++ nmB (m.ns (bkF m.k))).length ≤ 100 := by
    have h1 := nmB_len (m.ns (0 :: bkF m.k))
    have h2 := bkF_len m.k
    rw [HL.out]
    rw [ns_len, List.length_cons] at h1
    omega
  generalize hL : [] ++ nmB (m.ns [0]) ++ nmB (m.ns (bkF m.k)) = L at *
  clear hL
  cases hH : hdM m.k
  · have HF : Hid (frmB m = L) := by show _ = _; rw [frmB, hH, HL.out]; simp
    rw [hH] at hd
    clear hH HL
    go_wp2_with fail
    refine hd.mono ?_
    rintro e w6 ⟨rfl, hb6⟩
    have ho6 := own_belowG ho5 hb6
    have hcv := conv_own (dst := 9) Try.underlying54 Try.underlying5 Try.underlying9 ho6
    have hB6 := hB5.trans (hb6.mono hB5.size)
    clear hd ho5 ho6 hx5 hr5 hB5 hb5' hb6 c0 c1 c2 c3 c4 c5 c6
    go_wp2_with fail
    go_ret2
    exact ⟨by rw [HR.out, HF.out]; rfl, hB6⟩
  have hch := (may_parts HM.out).2.2.2.2.1
  have HF : Hid (frmB m = L ++ pk.textB (mk (encB (stR m.d)))) := by show _ = _; rw [frmB, hH, HL.out]; simp
  rw [hH] at hd
  have hsm := encB_small hi
  have he : encR m.d = (mk (encB (stR m.d)), 0) := by rw [encR, if_pos hch]
  have hE := fun W h => encode_any (.slice ao m.d.length cp) m.d W h hm hi
  rw [he] at hE
  have hT : pk.textR (mk (encB (stR m.d))) = (mk (pk.textB (mk (encB (stR m.d)))), 0) := by rw [pk.textR, if_pos (by rw [mk_size]; omega)]
  have hX := fun W => pk.text_any (mk (encB (stR m.d))) W (by rw [mk_size]; unfold maxLen; omega)
  rw [hT] at hX
  have htl := pk.textB_len (mk (encB (stR m.d)))
  rw [mk_size] at htl
  generalize hE2 : pk.textB (mk (encB (stR m.d))) = T at *
  generalize encB (stR m.d) = E at *
  clear hH HL he hT hch hE2 hi hm
  simp only at hE hX
  go_wp2_with fail
  refine hd.mono ?_
  rintro e w6 ⟨rfl, hb6⟩
  have ho6 := own_belowG ho5 hb6
  have hx6 := hx5.below hb6
  have hr6 := hr5.below hb6
  have hB6 := hB5.trans (hb6.mono hB5.size)
  have hs6 := hb6.size
  clear hd ho5 hx5 hr5 hB5 hb5' hb6 c0 c1 c2 c3 c4 c5 c6
  obtain ⟨-, -, -, -, -, -, c6⟩ := hx6.cells
  have hE' := hE w6 hr6
  clear hE hx6
  go_wp2_with fail
  refine hE'.mono ?_
  rintro e w7 ⟨rfl, hb7⟩
  have ho7 := own_belowG ho6 hb7
  have hB7 := hB6.trans (hb7.mono hB6.size)
  have hs7 := hb7.size
  clear hE' ho6 hr6 hB6 hb7 c6
  go_wp2_with fail
  refine (hX w7).mono ?_
  rintro e w8 ⟨rfl, hb8⟩
  have ho8 := own_belowG ho7 hb8
  have hB8 := hB7.trans (hb8.mono hB7.size)
  have hs8 := hb8.size
  clear hX ho7 hB7 hb8
  have hmk := mk_size T
  go_wp2_with (at_builtin; refine Lib.wpList_append_own_string _ rfl (.tmp 30) (.tmp 31) 54 9 rfl w2.heap.size 5 i0 Try.underlying54 Try.underlying9 hin hz0 hz1 hz2 _ _ _ rfl ho8 (mk T) rfl (by rw [hmk]; unfold maxLen; omega) (by rw [hmk]; omega) (by omega) ?_; intro v9 w9 ho9 hg9 _; have R9 := own_str ho9 rfl; have hcv := conv_own (dst := 9) Try.underlying54 Try.underlying5 Try.underlying9 R9; clear ho9 R9)
  go_ret2
  exact ⟨by rw [HR.out, HF.out]; rfl, hB8.grown hg9 (by have := hB8.size; omega) (fun k hk => by have := (ho8.lt k hk).1; omega)⟩
end Go.Proofs.Ytaopfdgebibpeaa
