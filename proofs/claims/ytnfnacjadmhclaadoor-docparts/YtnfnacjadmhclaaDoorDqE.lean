/-
  The reference's origin, Text, Len, Find.
-/
import Derived.Test.YtnfnacjadmhclaaDoorDqB
import Derived.Test.YtnfnacjadmhclaaDoorDlL
namespace Go.Proofs.YtnfnacjadmhclaaDoor
open Go.ChangeShapes Go.WideShapes Go.ChangeAt Go.RowKit Go.PlainAid

set_option maxRecDepth 20000 in
theorem rorigin_any (c q : Int) (w : World) :
    Calls Tryd.prog 38 #[.agg #[.int .i64 c, .int .i64 q]] w fun e w' => e = .returned (.bool (orM c q)) ∧ Below w.heap.size w w' := by
  have hB : Below w.heap.size w (w.alloc (.cells #[.int .i64 c, .int .i64 q] 29)) := (Below.refl _ w).alloc (Nat.le_refl _) _
  by_cases h1 : 0 ≤ c
  · by_cases h2 : c ≤ 8
    · by_cases h3 : 1 ≤ q
      · by_cases h4 : q ≤ 100000
        · have H : Hid (orM c q = true) := orM_iff.2 ⟨h1, h2, h3, h4⟩
          go_enter Tryd.func38, Tryd.ntmps38
          go_wp2
          go_ret
          exact ⟨ret_b H.out.symm, hB⟩
        · have H : Hid (orM c q = false) := orM_no.2 (fun h => h4 h.2.2.2)
          go_enter Tryd.func38, Tryd.ntmps38
          go_wp2
          go_ret
          exact ⟨ret_b H.out.symm, hB⟩
      · have H : Hid (orM c q = false) := orM_no.2 (fun h => h3 h.2.2.1)
        go_enter Tryd.func38, Tryd.ntmps38
        go_wp2
        go_ret
        exact ⟨ret_b H.out.symm, hB⟩
    · have H : Hid (orM c q = false) := orM_no.2 (fun h => h2 h.2.1)
      go_enter Tryd.func38, Tryd.ntmps38
      go_wp2
      go_ret
      exact ⟨ret_b H.out.symm, hB⟩
  · have H : Hid (orM c q = false) := orM_no.2 (fun h => h1 h.1)
    go_enter Tryd.func38, Tryd.ntmps38
    go_wp2
    go_ret
    exact ⟨ret_b H.out.symm, hB⟩


theorem ret_in {a b : Int} (h : a = b) : Ending.returned (.int .i64 a) = .returned (.int .i64 b) := by rw [h]
set_option maxRecDepth 20000 in
set_option maxHeartbeats 800000 in
theorem rtext_any (v : Value) (l : List RunD) (w : World) (hr : RdN w v l) (hm : l.length ≤ 1125899906842624) (ht : (txB l).length ≤ 140737488355328) :
    Calls Tryd.prog 16 #[v] w fun e w' => e = .returned (.string (mk (txB l))) ∧ Below w.heap.size w w' := by
  obtain ⟨ao, cp, hv, -⟩ := id hr
  subst hv
  go_enter Tryd.func16, Tryd.ntmps16
  go_wp2_with fail
  go_loopw [3, 4] (fun s i wr => ∃ (k : Nat), k ≤ l.length ∧ i = .int .i64 (k : Int) ∧ s = .string (mk (txB (l.take k))) ∧ Below w.heap.size w wr) (fun _ i _ => l.length - (Go.RowKit.intOf i).toNat)
  case atStart => exact ⟨0, Nat.zero_le _, rfl, rfl, Below.refl _ _⟩
  case round =>
    obtain ⟨k, hk, rfl, rfl, hBr⟩ := hrel
    by_cases hlt : k < l.length
    · have hlt' : (k : Int) < (l.length : Int) := by omega
      obtain ⟨bb, off, e1, -, e2, e3, e4, e5⟩ := (hr.below hBr).at k l[k] (by simp [hlt])
      have htk : mk (txB (l.take (k + 1))) = mk (txB (l.take k)) ++ l[k].t := by rw [txB_take hlt, ← mk_app]; rfl
      have hle := txB_le l (k + 1)
      rw [txB_take hlt, List.length_append] at hle
      have hsz : (mk (txB (l.take k))).size + l[k].t.size ≤ 140737488355328 := by rw [mk_size]; simp at hle; omega
      have HT : Hid (mk (txB (l.take (k + 1))) = mk (txB (l.take k)) ++ l[k].t) := htk
      clear htk hle
      generalize mk (txB (l.take k)) = T at *
      generalize l[k] = r at *
      subst e1
      clear hr
      go_wp2_with fail
      exact ⟨⟨k + 1, by omega, by go_num, by rw [HT.out], hBr⟩, by simp [Go.RowKit.intOf]; omega⟩
    · obtain rfl : k = l.length := by omega
      rw [List.take_length]
      clear hr
      go_wp2_with fail
      go_ret
      exact ⟨rfl, hBr⟩

set_option maxRecDepth 20000 in
set_option maxHeartbeats 800000 in
theorem rlen_any (v : Value) (l : List RunD) (w : World) (hr : RdN w v l) (hm : l.length ≤ 1125899906842624) (ht : (txB l).length ≤ 1048576) :
    Calls Tryd.prog 17 #[v] w fun e w' => e = .returned (.int .i64 (cpl (mk (txB l)))) ∧ Below w.heap.size w w' := by
  have h1 := rtext_any v l w hr hm (by omega)
  have h2 := fun W => refLen_any (mk (txB l)) W (by rw [mk_size]; omega)
  obtain ⟨ao, cp, hv, -⟩ := id hr
  subst hv
  clear hr
  go_enter Tryd.func17, Tryd.ntmps17
  go_wp2_with (first | (go_at_call 16; refine h1.mono ?_; rintro e w1 ⟨rfl, hb1⟩) | (go_at_call 37; refine (h2 _).mono ?_; rintro e w2 ⟨rfl, hb2⟩))
  go_ret
  exact ⟨rfl, chain hb1 hb2⟩

/-- The place of an atom among others. -/
def fdA (x : Atm) : List Atm → Nat → Int
  | [], _ => -1
  | y :: l, i => if y.same x = true then (i : Int) else fdA x l (i + 1)
theorem fdA_drop (x : Atm) {l : List Atm} {i : Nat} {y : Atm} (h : l[i]? = some y) : fdA x (l.drop i) i = if y.same x = true then (i : Int) else fdA x (l.drop (i + 1)) (i + 1) := by
  have hi : i < l.length := by
    rcases Nat.lt_or_ge i l.length with g | g
    · exact g
    · rw [List.getElem?_eq_none g] at h; cases h
  rw [List.getElem?_eq_getElem hi] at h
  injection h with h
  rw [List.drop_eq_getElem_cons hi, fdA, h]
theorem rda_at {W : World} {ao : Option Addr} {N cp : Nat} {l : List Atm} (h : RdA W (.slice ao N cp) l) {i : Nat} {x : Atm} (hx : l[i]? = some x) : ∃ b off, ao = some ⟨b, off, none⟩ ∧ b < W.heap.size ∧
    W.cell? ⟨b, off + i * 4, none⟩ = some (.int .i64 x.c) ∧ W.cell? ⟨b, off + i * 4 + 1, none⟩ = some (.int .i64 x.q) ∧ W.cell? ⟨b, off + i * 4 + 2, none⟩ = some (.int .i64 x.n) ∧ W.cell? ⟨b, off + i * 4 + 3, none⟩ = some (.int .i64 x.z) := by
  obtain ⟨a, c, e, -, h⟩ := h
  injection e with e1 _ _
  subst e1
  exact h i x hx
set_option maxRecDepth 20000 in
set_option maxHeartbeats 1000000 in
theorem rfind_any (v : Value) (l : List Atm) (x : Atm) (w : World) (hr : RdA w v l) (hm : l.length ≤ 100000) :
    Calls Tryd.prog 39 #[v, .agg #[.int .i64 x.c, .int .i64 x.q, .int .i64 x.n, .int .i64 x.z]] w fun e w' => e = .returned (.int .i64 (fdA x l 0)) ∧ Below w.heap.size w w' := by
  obtain ⟨ao, cp, hv, -⟩ := id hr
  subst hv
  have hB0 : Below w.heap.size w (w.alloc (.cells #[.int .i64 x.c, .int .i64 x.q, .int .i64 x.n, .int .i64 x.z] 53)) := (Below.refl _ w).alloc (Nat.le_refl _) _
  have hX : (w.alloc (.cells #[.int .i64 x.c, .int .i64 x.q, .int .i64 x.n, .int .i64 x.z] 53)).heap[w.heap.size]? = some (.cells #[.int .i64 x.c, .int .i64 x.q, .int .i64 x.n, .int .i64 x.z] 53) := heap_alloc_new w _
  replace hr := hr.below hB0
  go_enter Tryd.func39, Tryd.ntmps39
  go_wp2_with fail
  generalize w.alloc _ = w0 at *
  go_loopw [5] (fun i wr => ∃ (k : Nat), k ≤ l.length ∧ i = .int .i64 (k : Int) ∧ fdA x l 0 = fdA x (l.drop k) k ∧ Below w0.heap.size w0 wr) (fun i _ => l.length - (Go.RowKit.intOf i).toNat)
  case atStart => exact ⟨0, Nat.zero_le _, rfl, rfl, Below.refl _ _⟩
  case round =>
    obtain ⟨k, hk, rfl, hf, hBr⟩ := hrel
    by_cases hlt : k < l.length
    · have hlt' : (k : Int) < (l.length : Int) := by omega
      obtain ⟨y, hy⟩ : ∃ y, l[k]? = some y := ⟨l[k], by simp [hlt]⟩
      obtain ⟨ba, oa, rfl, -⟩ := rda_at (hr.below hBr) hy
      have xx := fun s : Beh wr => rda_at ((hr.below hBr).below s.h) hy
      have x0 : ∀ s : Beh wr, s.it.cell? ⟨ba, oa + k * 4, none⟩ = some (.int .i64 y.c) := fun s => by obtain ⟨_, _, e, -, g, -⟩ := xx s; cases e; exact g
      have x1 : ∀ s : Beh wr, s.it.cell? ⟨ba, oa + k * 4 + 1, none⟩ = some (.int .i64 y.q) := fun s => by obtain ⟨_, _, e, -, -, g, -⟩ := xx s; cases e; exact g
      have x2 : ∀ s : Beh wr, s.it.cell? ⟨ba, oa + k * 4 + 2, none⟩ = some (.int .i64 y.n) := fun s => by obtain ⟨_, _, e, -, -, -, g, -⟩ := xx s; cases e; exact g
      have x3 : ∀ s : Beh wr, s.it.cell? ⟨ba, oa + k * 4 + 3, none⟩ = some (.int .i64 y.z) := fun s => by obtain ⟨_, _, e, -, -, -, -, g⟩ := xx s; cases e; exact g
      have hXs := fun s : Beh wr => ((s.h.block w.heap.size (heap_lt ((hBr.block w.heap.size (heap_lt hX)).trans hX))).trans ((hBr.block w.heap.size (heap_lt hX)).trans hX))
      have z0 : ∀ s : Beh wr, s.it.cell? ⟨w.heap.size, 0, none⟩ = some (.int .i64 x.c) := fun s => cell_of_row _ _ 0 _ _ (0, 0) (hXs s)
      have z1 : ∀ s : Beh wr, s.it.cell? ⟨w.heap.size, 1, none⟩ = some (.int .i64 x.q) := fun s => cell_of_row _ _ 1 _ _ (0, 0) (hXs s)
      have z2 : ∀ s : Beh wr, s.it.cell? ⟨w.heap.size, 2, none⟩ = some (.int .i64 x.n) := fun s => cell_of_row _ _ 2 _ _ (0, 0) (hXs s)
      have z3 : ∀ s : Beh wr, s.it.cell? ⟨w.heap.size, 3, none⟩ = some (.int .i64 x.z) := fun s => cell_of_row _ _ 3 _ _ (0, 0) (hXs s)
      have cI := fun W => is_any y x W
      rw [fdA_drop x hy] at hf
      clear hy hr xx hXs
      cases hs : y.same x
      · simp only [hs] at cI
        have HF : Hid (fdA x l 0 = fdA x (l.drop (k + 1)) (k + 1)) := by show _ = _; rw [hs] at hf; simpa using hf
        clear hf hs
        go_wp2_with fail
        refine wp_region_beh (by kernel_rfl) (by kernel_rfl) ?_
        repeat (go_big_quiet_step ((go_at_call 30; exact Beh.call (cI _))))
        refine wpQuiet_nil ?_
        intro wq hw'
        have hwq := Beh.out hw'
        clear hw'
        clear x0 x1 x2 x3 z0 z1 z2 z3 cI
        go_wp2_with fail
        exact ⟨⟨k + 1, by omega, by go_num, HF.out, chain hBr hwq⟩, by simp [Go.RowKit.intOf]; omega⟩
      · simp only [hs] at cI
        have HF : Hid (fdA x l 0 = (k : Int)) := by show _ = _; rw [hs] at hf; simpa using hf
        clear hf hs
        go_wp2_with fail
        refine wp_region_beh (by kernel_rfl) (by kernel_rfl) ?_
        repeat (go_big_quiet_step ((go_at_call 30; exact Beh.call (cI _))))
        refine wpQuiet_nil ?_
        intro wq hw'
        have hwq := Beh.out hw'
        clear hw'
        clear x0 x1 x2 x3 z0 z1 z2 z3 cI
        go_wp2_with fail
        go_ret
        exact ⟨ret_in HF.out.symm, chain hB0 (chain hBr hwq)⟩
    · obtain rfl : k = l.length := by omega
      have HF : Hid (fdA x l 0 = -1) := by show _ = _; rw [hf, List.drop_length]; rfl
      clear hr hX hf
      go_wp2_with fail
      go_ret
      exact ⟨ret_in HF.out.symm, chain hB0 hBr⟩
end Go.Proofs.YtnfnacjadmhclaaDoor

/-
  What the reference's Check looks at, run by run and atom by atom. No walk.
-/
namespace Go.Proofs.YtnfnacjadmhclaaDoor
open Go.ChangeShapes Go.WideShapes Go.ChangeAt Go.RowKit Go.PlainAid

theorem same_iff {x y : Atm} : x.same y = true ↔ x.key = y.key := by simp [Atm.same]
theorem fdA_nodup : ∀ (l : List Atm) (n j : Nat) (x : Atm), l[j]? = some x → (l.map Atm.key).Nodup → fdA x l n = ((n + j : Nat) : Int)
  | [], n, j, x, h, _ => by simp at h
  | y :: l, n, 0, x, h, _ => by
    simp at h
    subst h
    rw [fdA, if_pos (same_iff.2 rfl)]
    rfl
  | y :: l, n, j + 1, x, h, hd => by
    have h' : l[j]? = some x := by simpa using h
    rw [List.map_cons, List.nodup_cons] at hd
    have hne : ¬ y.same x = true := fun e => hd.1 (by rw [same_iff.1 e]; exact List.mem_map_of_mem (List.mem_of_getElem? h'))
    rw [fdA, if_neg hne, fdA_nodup l (n + 1) j x h' hd.2]
    congr 1
    omega
theorem nodup_fdA : ∀ (l : List Atm) (n : Nat), (∀ (j : Nat) (x : Atm), l[j]? = some x → fdA x l n = ((n + j : Nat) : Int)) → (l.map Atm.key).Nodup
  | [], _, _ => by simp
  | y :: l, n, h => by
    have hne : ∀ (j : Nat) (x : Atm), l[j]? = some x → ¬ y.same x = true := fun j x hx e => by
      have := h (j + 1) x (by simpa using hx)
      rw [fdA, if_pos e] at this
      omega
    rw [List.map_cons, List.nodup_cons]
    refine ⟨fun hm => ?_, nodup_fdA l (n + 1) fun j x hx => ?_⟩
    · obtain ⟨x, hx, e⟩ := List.mem_map.1 hm
      obtain ⟨j, hj⟩ := List.getElem?_of_mem hx
      exact hne j x hj (same_iff.2 e.symm)
    · have := h (j + 1) x (by simpa using hx)
      rw [fdA, if_neg (hne j x hx)] at this
      rw [this]
      congr 1
      omega

/-- What has been looked at up to the run `k`, and may be. -/
structure Ck (l : List RunD) (k : Nat) : Prop where
  may : ∀ i r, i < k → l[i]? = some r → mayR r = true
  len : num (l.take k) ≤ 1000
  adj : ∀ i a r, i + 1 < k → l[i]? = some a → l[i + 1]? = some r → nxR a r = false
theorem num_take {l : List RunD} {k : Nat} (h : k < l.length) : num (l.take (k + 1)) = num (l.take k) + (cpl l[k].t).toNat := by
  unfold num
  rw [List.take_succ_eq_append_getElem h]
  unfold kysL
  rw [List.flatMap_append, List.length_append]
  simp [kys_len, RunD.k]
theorem ck_start (l : List RunD) : Ck l 0 := ⟨fun i r h => by omega, by simp [num, kysL], fun i a r h => by omega⟩
theorem ck_step {l : List RunD} {k : Nat} (h : Ck l k) (hk : k < l.length) (h1 : mayR l[k] = true) (h2 : (num (l.take k) : Int) + cpl l[k].t ≤ 1000) (h3 : ∀ a, 0 < k → l[k - 1]? = some a → nxR a l[k] = false) : Ck l (k + 1) := by
  have hp := (mayR_iff.1 h1).2.1
  refine ⟨fun i r hi hr => ?_, by rw [num_take hk]; omega, fun i a r hi ha hr => ?_⟩
  · by_cases e : i < k
    · exact h.may i r e hr
    · obtain rfl : i = k := by omega
      rw [List.getElem?_eq_getElem hk] at hr
      injection hr with hr
      rw [← hr]
      exact h1
  · by_cases e : i + 1 < k
    · exact h.adj i a r e ha hr
    · obtain rfl : k = i + 1 := by omega
      rw [List.getElem?_eq_getElem hk] at hr
      injection hr with hr
      rw [← hr]
      exact h3 a (by omega) (by simpa using ha)
theorem can_at : ∀ {l : List RunD}, Can l → ∀ (i : Nat) (a r : RunD), l[i]? = some a → l[i + 1]? = some r → nxR a r = false
  | [], _, i, a, r, h, _ => by simp at h
  | [b], _, i, a, r, _, h => by simp at h
  | b :: d :: l, hc, 0, a, r, h1, h2 => by
    simp at h1 h2
    subst h1
    subst h2
    exact hc.2.1
  | b :: d :: l, hc, i + 1, a, r, h1, h2 => can_at (l := d :: l) hc.2.2 i a r (by simpa using h1) (by simpa using h2)
theorem can_from : ∀ {l : List RunD}, (∀ r ∈ l, r.Ok) → (∀ (i : Nat) (a r : RunD), l[i]? = some a → l[i + 1]? = some r → nxR a r = false) → Can l
  | [], _, _ => trivial
  | [b], h, _ => h b (by simp)
  | b :: d :: l, h, ha => ⟨h b (by simp), ha 0 b d (by simp) (by simp), can_from (l := d :: l) (fun r hr => h r (by simp [hr])) (fun i a r h1 h2 => ha (i + 1) a r (by simpa using h1) (by simpa using h2))⟩
theorem num_le (l : List RunD) (k : Nat) : num (l.take k) ≤ num l := by
  have : num l = num (l.take k) + num (l.drop k) := by
    unfold num kysL
    rw [← List.length_append, ← List.flatMap_append, List.take_append_drop]
  omega
theorem ck_good {l : List RunD} (h : Good l) (k : Nat) : Ck l k :=
  ⟨fun _ r _ hr => h.may r (List.mem_of_getElem? hr), Nat.le_trans (num_le l k) h.len, fun i a r _ h1 h2 => can_at h.can i a r h1 h2⟩
theorem ck_end {l : List RunD} (h : Ck l l.length) : (∀ r ∈ l, mayR r = true) ∧ Can l ∧ num l ≤ 1000 := by
  have hm : ∀ r ∈ l, mayR r = true := fun r hr => by
    obtain ⟨i, hi⟩ := List.getElem?_of_mem hr
    have hl : i < l.length := by
      rcases Nat.lt_or_ge i l.length with g | g
      · exact g
      · rw [List.getElem?_eq_none g] at hi; cases hi
    exact h.may i r hl hi
  refine ⟨hm, can_from (fun r hr => (may_fit (hm r hr)).ok) (fun i a r h1 h2 => ?_), by have := h.len; rwa [List.take_length] at this⟩
  have hl : i + 1 < l.length := by
    rcases Nat.lt_or_ge (i + 1) l.length with g | g
    · exact g
    · rw [List.getElem?_eq_none g] at h2; cases h2
  exact h.adj i a r hl h1 h2
theorem good_from {l : List RunD} (h : Ck l l.length) (hd : ((ats l).map Atm.key).Nodup) : Good l := by
  obtain ⟨h1, h2, h3⟩ := ck_end h
  have ho : ∀ r ∈ l, r.Ok := fun r hr => (may_fit (h1 r hr)).ok
  refine good_ats.2 ⟨h2, fun x hx => ?_, hd, by rw [← num_ats ho]; exact h3⟩
  obtain ⟨L, hL, hx⟩ := List.mem_flatten.1 (show x ∈ (l.map RunD.ats).flatten from hx)
  obtain ⟨r, hr, rfl⟩ := List.mem_map.1 hL
  exact (may_ats (ho r hr)).1 (h1 r hr) x hx
theorem ck_bad {l : List RunD} {k : Nat} (h : ¬ Ck l k) : ckR l = 120 := by
  have : ¬ ckR l = 0 := fun e => h (ck_good (ckR_zero.1 e) k)
  rw [ckR] at this ⊢
  split
  · simp_all
  · rfl
theorem nd_bad {l : List RunD} (h : ¬ ((ats l).map Atm.key).Nodup) : ckR l = 120 := by
  have : ¬ ckR l = 0 := fun e => h (good_ats.1 (ckR_zero.1 e)).2.2.1
  rw [ckR] at this ⊢
  split
  · simp_all
  · rfl
end Go.Proofs.YtnfnacjadmhclaaDoor
