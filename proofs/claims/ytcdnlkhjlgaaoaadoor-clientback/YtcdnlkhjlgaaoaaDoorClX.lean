/-
  An editor is read again from its form, and from no longer one. An editor that came in, by weights.
-/
import Derived.Test.YtcdnlkhjlgaaoaaDoorClW
import Derived.Test.YtcdnlkhjlgaaoaaDoorCnV
namespace Go.Proofs.YtcdnlkhjlgaaoaaDoor
open Go.ChangeShapes Go.WideShapes Go.ChangeAt Go.RowKit Go.PlainAid

theorem at_selfC (L M : List UInt8) : At (mk (L ++ M)) 0 L := by
  have h := at_list [] L M
  simpa only [List.nil_append, List.length_nil] using h
theorem nu_at {s : ByteArray} {a n : Nat} (hn : n ≤ 1125899906842624) (h : At s a (numB n)) : nuF s (a : Int) false = ((n : Int), ((a + (numB n).length : Nat) : Int), false) := by
  simp only [nuF]
  rw [pk.tk_at (by decide) (by omega) h]
  rfl
theorem tx_at {s t : ByteArray} {a : Nat} (ht : t.size ≤ 20000) (h : At s a (pk.textB t)) : txtF s (a : Int) false = (t, ((a + (pk.textB t).length : Nat) : Int), false) := by
  simp only [txtF]
  rw [pk.tkT_at ht h]
  rfl
theorem dl_at {s : ByteArray} {a : Nat} {ds : List OpD} (hi : ∀ o ∈ ds, o.In) (hc : chk ds = 0) (h : At s a (pk.textB (mk (encB (stR ds))))) : dltF s (a : Int) false = (ds, ((a + (pk.textB (mk (encB (stR ds)))).length : Nat) : Int), false) := by
  have hx := tx_at (by rw [mk_size]; have := encB_small hi; omega) h
  unfold dltF
  rw [hx]
  simp only
  rw [dec_enc hi hc]
  rfl
theorem txs_cons {t : ByteArray} (r : List ByteArray) (ht : t.size ≤ 20000) : txsB (t :: r) = pk.textB t ++ txsB r := by
  rw [txsB, List.map_cons, List.flatten_cons, pk.textR, if_pos ht]
  rfl
theorem pd_at {s : ByteArray} : ∀ (l : List EdW) (q : Int) (a : Nat) (b t : Int), (∀ e ∈ l, ∀ o ∈ e.d, o.In) → wtG b q l = some t → At s a (txsB (dfs l)) → pdG s l.length q (a : Int) false = (l, ((a + (txsB (dfs l)).length : Nat) : Int), false)
  | [], q, a, b, t, _, _, _ => by simp [pdG, dfs, txsB]
  | e :: l, q, a, b, t, hi, hw, h => by
    rw [wtG] at hw
    split at hw
    · rename_i c
      obtain ⟨c1, c2, c3⟩ := c
      have hc : chk e.d = 0 := by simp [okD] at c1; exact c1.1
      have hie := hi e (by simp)
      have hx : txsB (dfs (e :: l)) = pk.textB (mk (encB (stR e.d))) ++ txsB (dfs l) := by
        have he : (encR e.d).1 = mk (encB (stR e.d)) := by rw [encR, if_pos hc]
        rw [dfs, List.map_cons, he, txs_cons _ (by rw [mk_size]; have := encB_small hie; omega)]
        rfl
      rw [hx] at h ⊢
      obtain ⟨h1, h2⟩ := at_append.1 h
      have hd := dl_at hie hc h1
      rw [List.length_cons, pdG, hd]
      simp only
      rw [pd_at l (q + 1) _ _ t (fun e he => hi e (by simp [he])) hw h2]
      obtain ⟨eq, ed⟩ := e
      simp only at c3
      subst c3
      simp only [List.length_append, Nat.add_assoc]
    · cases hw
theorem frm_eq {E : EdD} (ht : E.t.size ≤ 20000) : frmE E = numB E.c.toNat ++ (numB E.b.toNat ++ (numB E.r.toNat ++ (pk.textB E.t ++ (numB E.s.toNat ++ (numB E.p.length ++ txsB (dfs E.p)))))) := by
  rw [frmE, txs_cons _ ht]
  simp [nmB, txsB]
theorem dc_at {E : EdD} (hM : mayE E = true) (hi : ∀ e ∈ E.p, ∀ o ∈ e.d, o.In) (M : List UInt8) : dcC (mk (frmE E ++ M)) = dcT (mk (frmE E ++ M)) E false := by
  have hm := (may_iff E).1 hM
  have ht : E.t.size ≤ 20000 := by have := size_smallL hm.t0 hm.t1; omega
  have h := at_selfC (frmE E) M
  generalize mk (frmE E ++ M) = s at *
  rw [frm_eq ht] at h
  obtain ⟨h1, h⟩ := at_append.1 h
  obtain ⟨h2, h⟩ := at_append.1 h
  obtain ⟨h3, h⟩ := at_append.1 h
  obtain ⟨h4, h⟩ := at_append.1 h
  obtain ⟨h5, h⟩ := at_append.1 h
  obtain ⟨h6, h7⟩ := at_append.1 h
  have hc0 := hm.c0
  have hc1 := hm.c1
  have hb0 := hm.b0
  have hb1 := hm.b1
  have hr0 := hm.r0
  have hr1 := hm.r1
  have hs0 := hm.s0
  have hs1 := hm.s1
  have hp8 := hm.p8
  have n1 := nu_at (by omega) h1
  have n2 := nu_at (by omega) h2
  have n3 := nu_at (by omega) h3
  have n4 := tx_at ht h4
  have n5 := nu_at (by omega) h5
  have n6 := nu_at (by omega) h6
  have n7 := pd_at E.p _ _ _ _ hi hm.wt h7
  rw [Int.toNat_of_nonneg (by omega)] at n1 n2 n3 n5
  unfold dcC
  rw [show (0 : Int) = ((0 : Nat) : Int) from rfl, n1]
  simp only
  rw [n2]
  simp only
  rw [n3]
  simp only
  rw [n4]
  simp only
  rw [n5]
  simp only
  rw [n6]
  simp only
  rw [dcN, if_neg (by omega), Int.toNat_natCast, n7]
theorem dec_back {E : EdD} (hM : mayE E = true) (hi : ∀ e ∈ E.p, ∀ o ∈ e.d, o.In) (hl : (frmE E).length ≤ 40000) (M : List UInt8) : dcC (mk (frmE E ++ M)) = if M = [] then (E, 0) else (zeroE, 200) := by
  have he : encE E = (mk (frmE E), 0) := by rw [encE, if_pos hM, if_neg (by omega)]
  rw [dc_at hM hi, dcT, if_neg (by decide), he]
  by_cases h : M = []
  · subst h
    rw [List.append_nil, if_pos ⟨rfl, rfl⟩, if_pos rfl]
  · rw [if_neg h, if_neg]
    rintro ⟨-, e⟩
    have := congrArg ByteArray.size e
    rw [mk_size, mk_size, List.length_append] at this
    exact h (List.eq_nil_of_length_eq_zero (by omega))
theorem enc_cases {E : EdD} : (mayE E = true ∧ (frmE E).length ≤ 40000 ∧ encE E = (mk (frmE E), 0)) ∨ ((encE E).2 ≠ 0 ∧ (encE E).1 = ⟨#[]⟩) := by
  unfold encE
  by_cases hM : mayE E = true
  · by_cases hl : 40000 < (frmE E).length
    · rw [if_pos hM, if_pos hl]
      exact .inr ⟨by decide, rfl⟩
    · rw [if_pos hM, if_neg hl]
      exact .inl ⟨hM, by omega, rfl⟩
  · rw [if_neg hM]
    exact .inr ⟨by decide, rfl⟩

set_option maxRecDepth 20000 in
theorem open_dlvC {H : Type} {enc : TypeId × Value → H} {w : World} {spare : Nat → Bool} {held : Bool} {fuel : Nat} {v : Value} {x : DataW H × List MemPlace}
    (h : DataW.trod enc Tryd.prog w 0 spare held fuel 33 [v] = some x) (hz : ∀ n ∈ x.1.weights Tryd.prog 33, n ≤ reachBytes) :
    ∃ l : List OpD, RdD w v l ∧ l.length ≤ 4398046511104 ∧ ∀ o ∈ l, o.In ∧ o.Ok := by
  obtain ⟨ao, len, cap, rfl⟩ : ∃ ao len cap, v = .slice ao len cap := by
    rcases Go.Deep.open_slice Tryd.underlying33 h with ⟨hcs, _⟩ | ⟨a, l, c, m, n, D, Pl, hcs, _⟩
    · simp at hcs
      exact ⟨_, _, _, hcs⟩
    · simp at hcs
      exact ⟨_, _, _, hcs⟩
  exact open_dlz (ao := ao) (len := len) (cap := cap) h hz
set_option maxRecDepth 20000 in
theorem open_etz {H : Type} {enc : TypeId × Value → H} {w : World} {spare : Nat → Bool} {held : Bool} {n : Nat} {cs : List Value} {x : DataW H × List MemPlace} (h : DataW.trod enc Tryd.prog w 0 spare held n 41 cs = some x) (hz : ∀ n ∈ x.1.weights Tryd.prog 41, n ≤ reachBytes) :
    ∃ (e : EdW) (u : Value), cs = [.int .i64 e.q, u] ∧ RdD w u e.d ∧ e.Fit := by
  obtain ⟨xs, m, _, hx, hl, _, hf⟩ := DataW.trod_struct Tryd.underlying41 h
  have h4 : Tryd.prog.cellsOf 41 = 2 := by kernel_rfl
  have c3 : Tryd.prog.cellsOf 3 = 1 := by kernel_rfl
  have c9 : Tryd.prog.cellsOf 33 = 1 := by kernel_rfl
  rw [h4] at hl
  have hxl : xs.length = 2 := by assumption
  match xs, hxl, cs, hl with
  | [y0, y1], _, [v0, v1], _ =>
    have g0 := hf 0 _ rfl
    have g1 := hf 1 _ rfl
    simp [c3, c9] at g0 g1
    obtain ⟨a0, e0, -, w0⟩ := DataW.trod_int Tryd.underlying3 g0
    simp at e0
    have z1 : ∀ n ∈ y1.1.weights Tryd.prog 33, n ≤ reachBytes := fun n hn => hz n (by
      rw [hx]
      simp only [List.map]
      unfold DataW.weights
      rw [Tryd.underlying41]
      exact DataW.weights_mem_each (j := 1) (t := 33) (d := y1.1) rfl rfl n hn)
    obtain ⟨A, rA, mA, oA⟩ := open_dlvC g1 z1
    have hw := wf_bd w0
    exact ⟨⟨a0, A⟩, v1, by rw [e0], rA, ⟨hw.1, hw.2, by simp only; unfold maxLen; omega, fun o ho => (oA o ho).1⟩⟩
set_option maxRecDepth 20000 in
theorem open_elz {H : Type} {enc : TypeId × Value → H} {w : World} {spare : Nat → Bool} {held : Bool} {fuel : Nat} {v : Value} {x : DataW H × List MemPlace}
    (h : DataW.trod enc Tryd.prog w 0 spare held fuel 24 [v] = some x) (hz : ∀ n ∈ x.1.weights Tryd.prog 24, n ≤ reachBytes) :
    ∃ l : List EdW, RdEd w v l ∧ l.length ≤ 4398046511104 ∧ ∀ e ∈ l, e.Fit := by
  rcases Go.Deep.open_slice Tryd.underlying24 h with ⟨hcs, _⟩ | ⟨a, len, cap, m, n, D, Pl, hcs, _, hl, hmx, hmm, hx, hall⟩
  · simp at hcs
    subst hcs
    exact ⟨[], RdEd.nil w, Nat.zero_le _, by simp⟩
  · simp at hcs
    subst hcs
    have hlm : len ≤ m := by rw [hmm]; split <;> omega
    have h4 : Tryd.prog.cellsOf 41 = 2 := by kernel_rfl
    have hb : Tryd.prog.bytesOf 41 = 32 := by kernel_rfl
    have hln : len ≤ 4398046511104 := by
      have := hz ((len + (m - len)) * 32) (by rw [hx]; simp [DataW.weights, Tryd.underlying24, hb])
      unfold reachBytes at this
      omega
    have hzD : ∀ i, i < len → ∀ n ∈ (D i).weights Tryd.prog 41, n ≤ reachBytes := fun i hi n hn => hz n (by
      rw [hx]
      unfold DataW.weights
      rw [Tryd.underlying24]
      exact List.mem_cons_of_mem _ (List.mem_append_left _ (wAll_mem (List.mem_map.2 ⟨i, List.mem_range.2 hi, rfl⟩) n hn)))
    rw [h4] at hall
    obtain ⟨b, off, spot⟩ := a
    have hsp : ∀ i, i < len → spot = none := by
      intro i hi
      obtain ⟨cs', h1, h2⟩ := hall 0 (by omega)
      obtain ⟨o, u, rfl, ho⟩ := open_etz h2 (hzD 0 (by omega))
      obtain ⟨_, _, hcell⟩ := World.cells?_some h1
      have e0 := hcell 0 (by omega)
      simp at e0
      have := World.cell?_spot e0
      simpa [Addr.add] using this
    have each : ∀ i, i < len → ∃ e : EdW, e.Fit ∧ spot = none ∧ b < w.heap.size ∧ w.cell? ⟨b, off + i * 2, none⟩ = some (.int .i64 e.q) ∧ ∃ u, w.cell? ⟨b, off + i * 2 + 1, none⟩ = some u ∧ RdD w u e.d := by
      intro i hi
      obtain ⟨cs', h1, h2⟩ := hall i (by omega)
      obtain ⟨o, u, rfl, hr, ho⟩ := open_etz h2 (hzD i hi)
      obtain ⟨_, _, hcell⟩ := World.cells?_some h1
      have e0 := hcell 0 (by omega)
      have e1 := hcell 1 (by omega)
      rw [Go.Deep.add_add] at e0 e1
      simp at e0 e1
      obtain rfl := hsp i hi
      have hadd : ∀ k, (⟨b, off, none⟩ : Addr).add k = ⟨b, off + k, none⟩ := fun k => by unfold Addr.add; split <;> simp_all
      rw [hadd] at e0 e1
      exact ⟨o, ho, rfl, World.block_lt_of_cell? w _ e0, e0, u, by rw [Nat.add_assoc]; exact e1, hr⟩
    obtain ⟨f, hf⟩ := @Go.Deep.choose_lt EdW ⟨⟨0, []⟩⟩ _ _ each
    have hlen : ((List.range len).map f).length = len := by simp
    refine ⟨(List.range len).map f, ⟨some ⟨b, off, spot⟩, cap, by rw [hlen], ⟨by rw [hlen]; omega, fun h => by cases h⟩, fun i o ho => ?_⟩, by rw [hlen]; omega, fun o ho => ?_⟩
    · have hi : i < len := by
        have := (List.getElem?_eq_some_iff.1 ho).1
        simpa using this
      simp [hi] at ho
      subst ho
      obtain ⟨_, rfl, r1, r2, u, r3, r4⟩ := hf i hi
      exact ⟨b, off, u, rfl, r1, r2, r3, r4⟩
    · obtain ⟨i, hi, rfl⟩ := List.mem_map.1 ho
      exact (hf i (List.mem_range.1 hi)).1
set_option maxRecDepth 20000 in
/-- What came in, as an editor. -/
theorem open_edz {H : Type} {enc : TypeId × Value → H} {w : World} {spare : Nat → Bool} {held : Bool} {n : Nat} {cs : List Value} {x : DataW H × List MemPlace} (h : DataW.trod enc Tryd.prog w 0 spare held n 26 cs = some x) (hz : ∀ n ∈ x.1.weights Tryd.prog 26, n ≤ reachBytes) :
    ∃ (E : EdD) (v : Value), cs = [.int .i64 E.c, .int .i64 E.b, .int .i64 E.r, .string E.t, .int .i64 E.s, v] ∧ RdEd w v E.p ∧ E.Fit := by
  obtain ⟨xs, m, _, hx, hl, _, hf⟩ := DataW.trod_struct Tryd.underlying26 h
  have h4 : Tryd.prog.cellsOf 26 = 6 := by kernel_rfl
  have c3 : Tryd.prog.cellsOf 3 = 1 := by kernel_rfl
  have c8 : Tryd.prog.cellsOf 9 = 1 := by kernel_rfl
  have c9 : Tryd.prog.cellsOf 24 = 1 := by kernel_rfl
  rw [h4] at hl
  have hxl : xs.length = 6 := by assumption
  match xs, hxl, cs, hl with
  | [y0, y1, y2, y3, y4, y5], _, [v0, v1, v2, v3, v4, v5], _ =>
    have g0 := hf 0 _ rfl
    have g1 := hf 1 _ rfl
    have g2 := hf 2 _ rfl
    have g3 := hf 3 _ rfl
    have g4 := hf 4 _ rfl
    have g5 := hf 5 _ rfl
    simp [c3, c8, c9] at g0 g1 g2 g3 g4 g5
    obtain ⟨a0, e0, -, -⟩ := DataW.trod_int Tryd.underlying3 g0
    obtain ⟨a1, e1, -, -⟩ := DataW.trod_int Tryd.underlying3 g1
    obtain ⟨a2, e2, -, -⟩ := DataW.trod_int Tryd.underlying3 g2
    obtain ⟨a3, e3, f3, -⟩ := DataW.trod_string Tryd.underlying9 g3
    obtain ⟨a4, e4, -, w4⟩ := DataW.trod_int Tryd.underlying3 g4
    simp at e0 e1 e2 e3 e4
    have z3 : ∀ n ∈ y3.1.weights Tryd.prog 9, n ≤ reachBytes := fun n hn => hz n (by
      rw [hx]
      simp only [List.map]
      unfold DataW.weights
      rw [Tryd.underlying26]
      exact DataW.weights_mem_each (j := 3) (t := 9) (d := y3.1) rfl rfl n hn)
    have z5 : ∀ n ∈ y5.1.weights Tryd.prog 24, n ≤ reachBytes := fun n hn => hz n (by
      rw [hx]
      simp only [List.map]
      unfold DataW.weights
      rw [Tryd.underlying26]
      exact DataW.weights_mem_each (j := 5) (t := 24) (d := y5.1) rfl rfl n hn)
    have ht : a3.size ≤ 140737488355328 := by
      have := z3 a3.size (by rw [f3]; simp [DataW.weights])
      unfold reachBytes at this
      omega
    obtain ⟨A, rA, mA, oA⟩ := open_elz g5 z5
    have hw := wf_bd w4
    exact ⟨⟨a0, a1, a2, a3, a4, A⟩, v5, by rw [e0, e1, e2, e3, e4], rA, ⟨hw.1, hw.2, ht, by simp only; unfold maxLen; omega, oA⟩⟩
end Go.Proofs.YtcdnlkhjlgaaoaaDoor
