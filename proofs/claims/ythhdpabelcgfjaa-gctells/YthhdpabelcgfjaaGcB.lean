/-
  gc: what is needed, as data; the closure mark.
-/
import Derived.Test.YthhdpabelcgfjaaGcA
namespace Go.Proofs.Ythhdpabelcgfjaa
open Go.Maps Go.ChangeShapes Go.WideShapes Go.ChangeAt Go.RowKit Go.PlainAid

/-! ### Marks as data -/

theorem nodup_len {K : List Int} : ∀ {M : List Int}, M.Nodup → (∀ n ∈ M, n ∈ K) → M.length ≤ K.length := by
  intro M
  induction M generalizing K with
  | nil => intro _ _; exact Nat.zero_le _
  | cons x M ih =>
    intro hn hs
    rw [List.nodup_cons] at hn
    have hx := hs x (List.mem_cons_self ..)
    have := ih (K := K.erase x) hn.2 (fun n hm => by
      have : n ≠ x := fun e => hn.1 (e ▸ hm)
      exact (List.mem_erase_of_ne this).2 (hs n (List.mem_cons_of_mem _ hm)))
    rw [List.length_erase_of_mem hx] at this
    have h0 := List.length_pos_of_mem hx
    simp only [List.length_cons]
    omega
/-- One number is marked, if it is found and was not marked. -/
def mk1 (f : Int → Bool) (s : List Int × List Int) (n : Int) : List Int × List Int := if f n = true ∧ n ∉ s.1 then (s.1 ++ [n], s.2 ++ [n]) else s
def mkS (f : Int → Bool) (s : List Int × List Int) (l : List Int) : List Int × List Int := l.foldl (mk1 f) s
theorem mkS_snoc (f : Int → Bool) (s : List Int × List Int) (l : List Int) (n : Int) : mkS f s (l ++ [n]) = mk1 f (mkS f s l) n := by simp [mkS, List.foldl_append]
/-- What marks are always. -/
structure MI (f : Int → Bool) (K : List Int) (s : List Int × List Int) : Prop where
  nd : s.1.Nodup
  fd : ∀ n ∈ s.1, f n = true
  nr : s.2.Nodup
  sb : ∀ n ∈ s.2, n ∈ s.1
  kk : ∀ n, f n = true → n ∈ K
theorem MI.len {f : Int → Bool} {K : List Int} {s : List Int × List Int} (h : MI f K s) : s.1.length ≤ K.length ∧ s.2.length ≤ K.length :=
  ⟨nodup_len h.nd (fun n hn => h.kk n (h.fd n hn)), nodup_len h.nr (fun n hn => h.kk n (h.fd n (h.sb n hn)))⟩
theorem MI.one {f : Int → Bool} {K : List Int} {s : List Int × List Int} (h : MI f K s) (n : Int) : MI f K (mk1 f s n) := by
  unfold mk1
  split
  · rename_i hc
    have hn2 : n ∉ s.2 := fun hm => hc.2 (h.sb n hm)
    refine ⟨?_, fun m hm => ?_, ?_, fun m hm => ?_, h.kk⟩
    · exact List.nodup_append.2 ⟨h.nd, by simp, fun a ha b hb e => by simp at hb; subst hb; subst e; exact hc.2 ha⟩
    · rcases List.mem_append.1 hm with hm | hm
      · exact h.fd m hm
      · simp at hm; subst hm; exact hc.1
    · exact List.nodup_append.2 ⟨h.nr, by simp, fun a ha b hb e => by simp at hb; subst hb; subst e; exact hn2 ha⟩
    · rcases List.mem_append.1 hm with hm | hm
      · exact List.mem_append_left _ (h.sb m hm)
      · exact List.mem_append_right _ hm
  · exact h
theorem MI.all {f : Int → Bool} {K : List Int} : ∀ (l : List Int) {s : List Int × List Int}, MI f K s → MI f K (mkS f s l)
  | [], _, h => h
  | n :: l, _, h => MI.all l (h.one n)

/-! ### The boxes of marked -/

structure Mk (w0 : World) (p bp m bm q B N : Nat) (F : Int → Option Value) (M fr : List Int) (fv : Value) (W : World) : Prop where
  hp : W.heap[p]? = some (.cells #[.map (some bp)] 75)
  hm : W.heap[m]? = some (.cells #[.map (some bm)] 55)
  hq : W.heap[q]? = some (.cells #[fv] 28)
  pa : PaZ W bp N F
  ms : MkZ W bm M
  fr : W.ownsRow B 3 1 fv fr.length (ivs fr)
  bl : Below w0.heap.size w0 W
  l1 : w0.heap.size ≤ bm
  l2 : w0.heap.size ≤ q
  l3 : w0.heap.size ≤ B
  lB : B ≤ W.heap.size
  ne : bp ≠ bm
section
variable {w0 W W' : World} {p bp m bm q B N : Nat} {F : Int → Option Value} {M fr : List Int} {fv : Value}
theorem Mk.below (h : Mk w0 p bp m bm q B N F M fr fv W) (hb : Below W.heap.size W W') : Mk w0 p bp m bm q B N F M fr fv W' :=
  ⟨(hb.block _ (heap_lt h.hp)).trans h.hp, (hb.block _ (heap_lt h.hm)).trans h.hm, (hb.block _ (heap_lt h.hq)).trans h.hq, h.pa.below hb, h.ms.below hb, own_belowG h.fr hb, h.bl.trans (hb.mono h.bl.size), h.l1, h.l2, h.l3, Nat.le_trans h.lB hb.size, h.ne⟩
theorem cell1 {W : World} {g : Nat} {v : Value} {t : TypeId} (h : W.heap[g]? = some (.cells #[v] t)) : W.cell? ⟨g, 0, none⟩ = some v ∧ W.frozen? ⟨g, 0, none⟩ = false := ⟨cell_of_row W g 0 _ _ (0, 0) h, frz h 0⟩
/-- A number is put among the marks. -/
theorem Mk.put (h : Mk w0 p bp m bm q B N F M fr fv W) {n : Int} (hk : MkZ W' bm (M ++ [n])) (hg : W.grownBy W' (some bm)) : Mk w0 p bp m bm q B N F (M ++ [n]) fr fv W' := by
  have hne : ∀ (k : Nat) (c : Array Value) (t : TypeId), W.heap[k]? = some (Obj.cells c t) → W'.heap[k]? = some (Obj.cells c t) := fun k c t hk => (hg.block k (heap_lt hk) (by have := h.ms.box hk; simpa using this)).trans hk
  refine ⟨hne _ _ _ h.hp, hne _ _ _ h.hm, hne _ _ _ h.hq, h.pa.kept hg (by have := h.ne; simpa using this), hk, h.fr.kept hg ?_, h.bl.grown hg h.bl.size (fun j hj => by cases hj; exact h.l1), h.l1, h.l2, h.l3, Nat.le_trans h.lB hg.size, h.ne⟩
  rcases h.fr.2 with ⟨e, -⟩ | ⟨g, cap, cur, e, -, hgc, -⟩
  · left; rw [e]; rfl
  · right
    rw [e]
    have := h.ms.box hgc
    simpa [Value.ownBlock] using this
/-- A number is put behind those that are fresh. -/
theorem Mk.push {fv' : Value} (h : Mk w0 p bp m bm q B N F M fr fv W) {n : Int} (ho : W'.ownsRow B 3 1 fv' (fr.length + 1) (ivs fr ++ [.int .i64 n])) (hg : W.grownBy W' fv.ownBlock) : Mk w0 p bp m bm q B N F M (fr ++ [n]) fv' (W'.setCell ⟨q, 0, none⟩ fv') := by
  have hne : ∀ (k : Nat) (c : Array Value) (t : TypeId), W.heap[k]? = some (Obj.cells c t) → 3 ≠ t → W'.heap[k]? = some (Obj.cells c t) := fun k c t hk hn => (hg.block k (heap_lt hk) (box_apart h.fr hk hn)).trans hk
  have hnm : ∀ b, (∃ es cl, W.heap[b]? = some (.map es cl)) → some b ≠ fv.ownBlock := by
    rintro b ⟨es, cl, hb⟩ e
    rcases h.fr.2 with ⟨e2, -⟩ | ⟨g, cap, cur, e2, -, hgc, -⟩
    · rw [e2] at e; cases e
    · rw [e2] at e
      simp [Value.ownBlock] at e
      subst e
      rw [hb] at hgc
      cases hgc
  have hq' := hne _ _ _ h.hq (by decide)
  have hs := fun k (hn : k ≠ q) => Below.heap_setCell W' ⟨q, 0, none⟩ fv' k (by simpa using hn)
  have hg2 := grown_set W' q 0 fv'
  have hpq : p ≠ q := fun e => by
    have h1 := h.hp
    rw [e, h.hq] at h1
    simp at h1
  have hmq : m ≠ q := fun e => by
    have h1 := h.hm
    rw [e, h.hq] at h1
    simp at h1
  have b1 : bp ≠ q := fun e => by
    obtain ⟨D, ⟨es, cl, hb, -⟩, -⟩ := h.pa
    rw [e, h.hq] at hb
    cases hb
  have b2 : bm ≠ q := fun e => (h.ms.box h.hq) e.symm
  have hlq := heap_lt h.hq
  refine ⟨(hs _ hpq).trans (hne _ _ _ h.hp (by decide)), (hs _ hmq).trans (hne _ _ _ h.hm (by decide)), heap_setCell hq' 0 fv', (h.pa.kept hg (hnm _ ?_)).kept hg2 (by simpa using b1), (h.ms.kept hg (hnm _ ?_)).kept hg2 (by simpa using b2), ?_, (h.bl.grown hg h.bl.size (fun j hj => by have := (h.fr.lt j hj).1; have := h.l3; omega)).setCell (p := ⟨q, 0, none⟩) h.l2 _, h.l1, h.l2, h.l3, Nat.le_trans h.lB (by have := hg.size; have := hg2.size; omega), h.ne⟩
  · obtain ⟨D, ⟨es, cl, hb, -⟩, -⟩ := h.pa
    exact ⟨es, cl, hb⟩
  · obtain ⟨D, ⟨es, cl, hb, -⟩, -⟩ := h.ms
    exact ⟨es, cl, hb⟩
  · have := own_set (x := fv') (j := 0) ho hq' (by decide)
    simpa [ivs] using this
end
set_option maxRecDepth 20000 in
set_option maxHeartbeats 3000000 in
theorem mark_any {w0 : World} {p bp m bm q B N : Nat} {F : Int → Option Value} {K M fr : List Int} {fv : Value} (v : Value) (l : List Int) (W : World) (h : Mk w0 p bp m bm q B N F M fr fv W) (hi : MI (fun n => (F n).isSome) K (M, fr)) (hK : K.length ≤ 17592186044000) (hr : RdI w0 v l) (hl : l.length ≤ 17592186044416) (hI : ∀ n ∈ l, InI n) :
    Calls Try.prog 37 #[v, .pointer (some ⟨p, 0, none⟩), .pointer (some ⟨m, 0, none⟩), .pointer (some ⟨q, 0, none⟩)] W fun e W' => e = .returned (.tuple #[]) ∧ ∃ fv', Mk w0 p bp m bm q B N F (mkS (fun n => (F n).isSome) (M, fr) l).1 (mkS (fun n => (F n).isSome) (M, fr) l).2 fv' W' := by
  obtain ⟨ao, cp, rfl, hcs⟩ := hr
  obtain ⟨i0, hin, hz0, hz1, hz2⟩ := info_parts Try.infoIntR
  have h0 : Mk w0 p bp m bm q B N F (mkS (fun n => (F n).isSome) (M, fr) (l.take 0)).1 (mkS (fun n => (F n).isSome) (M, fr) (l.take 0)).2 fv W := h
  have hMI := fun k => MI.all (l.take k) hi
  clear h hi
  go_enter Try.func37, Try.ntmps37
  go_wp2_with fail
  go_loopw [13] (fun i wr => ∃ (k : Nat) (gv : Value), k ≤ l.length ∧ i = .int .i64 (k : Int) ∧ Mk w0 p bp m bm q B N F (mkS (fun n => (F n).isSome) (M, fr) (l.take k)).1 (mkS (fun n => (F n).isSome) (M, fr) (l.take k)).2 gv wr) (fun i _ => l.length - (Go.RowKit.intOf i).toNat)
  case atStart => exact ⟨0, fv, by omega, rfl, h0⟩
  case round =>
    clear h0
    obtain ⟨k, gv, hk, rfl, h⟩ := hrel
    by_cases hlt : k < l.length
    · have hlt' : (k : Int) < (l.length : Int) := by omega
      obtain ⟨g, off, rfl, hg, c0⟩ := hcs k l[k] (by simp [hlt])
      rw [← h.bl.cell (p := ⟨g, _, none⟩) hg] at c0
      have hIx := hI l[k] (List.getElem_mem hlt)
      have hm1 := hMI k
      have eS : mkS (fun n => (F n).isSome) (M, fr) (l.take (k + 1)) = mk1 (fun n => (F n).isSome) (mkS (fun n => (F n).isSome) (M, fr) (l.take k)) l[k] := by
        rw [List.take_succ_eq_append_getElem hlt, mkS_snoc]
      obtain ⟨HS⟩ : Nonempty (Hid (mkS (fun n => (F n).isSome) (M, fr) (l.take (k + 1)) = mk1 (fun n => (F n).isSome) (mkS (fun n => (F n).isSome) (M, fr) (l.take k)) l[k])) := ⟨eS⟩
      clear eS hMI hcs hI
      generalize mkS (fun n => (F n).isSome) (M, fr) (l.take k) = s at *
      generalize l[k] = n at *
      obtain ⟨Mc, fc⟩ := s
      simp only at h HS hm1
      have hlen := hm1.len
      simp only at hlen
      obtain ⟨e1, f1⟩ := cell1 h.hp
      obtain ⟨e2, f2⟩ := cell1 h.hm
      obtain ⟨pv, hlp⟩ := h.pa.look hIx
      have hlm := h.ms.look hIx
      have hal := alloc_bR W (.cells #[] 56)
      have halr := alloc_bR wr (.cells #[] 56)
      have hA := h.below halr
      obtain ⟨e3, f3⟩ := cell1 hA.hm
      obtain ⟨e4, f4⟩ := cell1 hA.hq
      clear hm1
      by_cases hc : (F n).isSome = true ∧ n ∉ Mc
      · have hs1 : mk1 (fun n => (F n).isSome) (Mc, fc) n = (Mc ++ [n], fc ++ [n]) := by unfold mk1; exact if_pos hc
        rw [hs1] at HS
        obtain ⟨W2, hup, hmk, hgw⟩ := hA.ms.put (by unfold maxLen; omega) hIx
        have hB := hA.put hmk hgw
        obtain ⟨e5, f5⟩ := cell1 hB.hq
        rw [hc.1] at hlp
        rw [decide_eq_false hc.2] at hlm
        obtain ⟨av, kv, rfl⟩ := own_form hB.fr
        have hal3 := alloc_bR W2 (.cells #[.int .i64 n] 3)
        have hC := hB.below hal3
        have hoE := hC.fr
        have hl2 : fc.length ≤ 17592186044000 := by omega
        have hBl := hC.lB
        clear hs1 hc hmk hgw hA hal halr hlen hK
        go_wp2_with (at_builtin; refine wpList_append_own _ rfl (.tmp 37) (.tmp 39) 28 rfl B 3 i0 (.int .i64 0) 1 8 Try.underlying28 hin hz0 hz1 hz2 rfl (by decide) _ fc.length _ rfl hoE ⟨_, 0, none⟩ 1 1 [.int .i64 n] rfl rfl (many_new _ _ _) (one_intR _) (by unfold maxLen; omega) (by omega) (by omega) ?_; intro v6 w6 ho6 hg6 _; obtain ⟨a6, k6, rfl⟩ := own_form ho6; have hD := hC.push ho6 hg6; obtain ⟨e6, f6⟩ := cell1 ((hg6.block _ (heap_lt hC.hq) (box_apart hC.fr hC.hq (by decide))).trans hC.hq))
        exact ⟨⟨k + 1, _, by omega, by go_num, by rw [HS.out]; exact hD⟩, by simp [Go.RowKit.intOf]; omega⟩
      · have hs1 : mk1 (fun n => (F n).isSome) (Mc, fc) n = (Mc, fc) := by unfold mk1; exact if_neg hc
        rw [hs1] at HS
        clear hs1 hal halr hK hlen
        by_cases hf : (F n).isSome = true
        · have hin2 : n ∈ Mc := by
            apply Classical.byContradiction
            exact fun h => hc ⟨hf, h⟩
          rw [hf] at hlp
          rw [decide_eq_true hin2] at hlm
          clear hc hf hin2
          go_wp2_with fail
          exact ⟨⟨k + 1, _, by omega, by go_num, by rw [HS.out]; exact hA⟩, by simp [Go.RowKit.intOf]; omega⟩
        · rw [Bool.eq_false_iff.2 hf] at hlp
          clear hc hf
          go_wp2_with fail
          exact ⟨⟨k + 1, _, by omega, by go_num, by rw [HS.out]; exact hA⟩, by simp [Go.RowKit.intOf]; omega⟩
    · have hlt' : ¬ (k : Int) < (l.length : Int) := by omega
      have hk2 : k = l.length := by omega
      rw [hk2, List.take_length] at h
      have Hh : Hid (Mk w0 p bp m bm q B N F (mkS (fun n => (F n).isSome) (M, fr) l).1 (mkS (fun n => (F n).isSome) (M, fr) l).2 gv wr) := h
      clear h hcs hI hMI
      go_wp2_with fail
      go_end0
      exact ⟨rfl, _, Hh.out⟩
end Go.Proofs.Ythhdpabelcgfjaa
