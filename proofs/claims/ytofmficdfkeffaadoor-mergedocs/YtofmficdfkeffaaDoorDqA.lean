/-
  Atoms as cells; the contracts of the reference's Is and Atoms.
-/
import Derived.Test.YtofmficdfkeffaaDoorDpGDpJ
import Derived.Test.YtofmficdfkeffaaDoorTxFirstPTxFirstTxRefP
import Derived.Deep.RegionLaw
import Derived.Deep.AppendLies
namespace Go.Proofs.YtofmficdfkeffaaDoor
open Go.ChangeShapes Go.WideShapes Go.ChangeAt Go.RowKit Go.PlainAid

theorem Tryd.infoAtm : (Tryd.prog.info? 42).map (fun i => (i.zero, i.size, i.bytes)) = some (some (.agg #[.int .i64 0, .int .i64 0, .int .i64 0, .int .i64 0]), 4, 32) := by kernel_rfl
/-- Atoms as cells. -/
def acs (l : List Atm) : List Value := (l.map fun x => [Value.int .i64 x.c, .int .i64 x.q, .int .i64 x.n, .int .i64 x.z]).flatten
theorem acs_append (a b : List Atm) : acs (a ++ b) = acs a ++ acs b := by simp [acs]
theorem acs_one (x : Atm) : acs [x] = [Value.int .i64 x.c, .int .i64 x.q, .int .i64 x.n, .int .i64 x.z] := by simp [acs]
theorem acs_cons (x : Atm) (l : List Atm) : acs (x :: l) = .int .i64 x.c :: .int .i64 x.q :: .int .i64 x.n :: .int .i64 x.z :: acs l := by simp [acs]
theorem acs_length : ∀ (l : List Atm), (acs l).length = l.length * 4
  | [] => rfl
  | x :: l => by rw [acs_cons]; simp only [List.length_cons, acs_length l]; omega
theorem acs_at : ∀ (l : List Atm) (i : Nat) (x : Atm), l[i]? = some x → (acs l)[i * 4]? = some (.int .i64 x.c) ∧ (acs l)[i * 4 + 1]? = some (.int .i64 x.q) ∧ (acs l)[i * 4 + 2]? = some (.int .i64 x.n) ∧ (acs l)[i * 4 + 3]? = some (.int .i64 x.z)
  | [], i, x, h => by simp at h
  | y :: l, 0, x, h => by simp at h; subst h; simp [acs_cons]
  | y :: l, i + 1, x, h => by
    have := acs_at l i x (by simpa using h)
    rw [acs_cons, show (i + 1) * 4 = i * 4 + 1 + 1 + 1 + 1 by omega]
    simpa using this
/-- Atoms in the world. -/
def RdA (w : World) (v : Value) (l : List Atm) : Prop :=
  ∃ (ao : Option Addr) (cp : Nat), v = .slice ao l.length cp ∧ l.length ≤ cp ∧ ∀ i x, l[i]? = some x → ∃ b off, ao = some ⟨b, off, none⟩ ∧ b < w.heap.size ∧
    w.cell? ⟨b, off + i * 4, none⟩ = some (.int .i64 x.c) ∧ w.cell? ⟨b, off + i * 4 + 1, none⟩ = some (.int .i64 x.q) ∧ w.cell? ⟨b, off + i * 4 + 2, none⟩ = some (.int .i64 x.n) ∧ w.cell? ⟨b, off + i * 4 + 3, none⟩ = some (.int .i64 x.z)
theorem RdA.below {w w' : World} {v : Value} {l : List Atm} (h : RdA w v l) (hb : Below w.heap.size w w') : RdA w' v l := by
  obtain ⟨ao, cp, e, hc, h⟩ := h
  refine ⟨ao, cp, e, hc, fun i r hr => ?_⟩
  obtain ⟨b, off, e1, h1, c0, c1, c2, c3⟩ := h i r hr
  have g : ∀ j, w'.cell? ⟨b, j, none⟩ = w.cell? ⟨b, j, none⟩ := fun j => hb.cell (p := ⟨b, j, none⟩) h1
  exact ⟨b, off, e1, Nat.lt_of_lt_of_le h1 hb.size, by rw [g]; exact c0, by rw [g]; exact c1, by rw [g]; exact c2, by rw [g]; exact c3⟩
theorem rda_own {W : World} {B : Nat} {v : Value} {l : List Atm} (h : W.ownsRow B 42 4 v l.length (acs l)) : RdA W v l := by
  rcases h.2 with ⟨rfl, h0⟩ | ⟨g, cap, cur, rfl, _, hg, hn, _, _, ht⟩
  · have : l = [] := List.length_eq_zero_iff.1 h0
    subst this
    exact ⟨none, 0, rfl, Nat.le_refl _, fun i x hx => by simp at hx⟩
  · refine ⟨_, _, rfl, hn, fun i x hx => ⟨g, 0, rfl, heap_lt hg, ?_⟩⟩
    obtain ⟨e0, e1, e2, e3⟩ := acs_at l i x hx
    have q := h.cells (g := g) rfl
    have q0 := q _ _ e0
    have q1 := q _ _ e1
    have q2 := q _ _ e2
    have q3 := q _ _ e3
    rw [addr4] at q0 q1 q2 q3
    exact ⟨q0, by rw [Nat.add_assoc]; exact q1, by rw [Nat.add_assoc]; exact q2, by rw [Nat.add_assoc]; exact q3⟩
theorem atG_at (c q : Int) : ∀ (zs : List Int) (n : Int) (i : Nat) (z : Int), zs[i]? = some z → (atG c q n zs)[i]? = some ⟨c, q, n + (i : Int), z⟩
  | [], n, i, z, h => by simp at h
  | y :: zs, n, 0, z, h => by simp at h; subst h; simp [atG]
  | y :: zs, n, i + 1, z, h => by
    rw [atG, List.getElem?_cons_succ, atG_at c q zs (n + 1) i z (by simpa using h)]
    congr 2
    omega
theorem atG_take1 (c q n : Int) (zs : List Int) (i : Nat) (z : Int) (h : zs[i]? = some z) : atG c q n (zs.take (i + 1)) = atG c q n (zs.take i) ++ [⟨c, q, n + (i : Int), z⟩] := by
  have hi : i < zs.length := (List.getElem?_eq_some_iff.1 h).1
  have e : (atG c q n zs)[i]? = some ⟨c, q, n + (i : Int), z⟩ := atG_at c q zs n i z h
  have hi2 : i < (atG c q n zs).length := by rw [atG_len]; exact hi
  rw [← atG_take, ← atG_take, List.take_succ_eq_append_getElem hi2]
  congr 2
  have := List.getElem?_eq_getElem hi2
  rw [e] at this
  exact (Option.some.inj this).symm

theorem iv_get {P : List Int} {j : Nat} {z : Int} (h : P[j]? = some z) : (iv P)[j]? = some (.int .i64 z) := by simp [iv, h]

set_option maxRecDepth 20000 in
set_option maxHeartbeats 1000000 in
theorem atoms_any (v : Value) (l : List RunD) (w : World) (hr : RdN w v l) (hok : ∀ r ∈ l, r.Ok) (hsz : ∀ r ∈ l, r.t.size ≤ 1048576) (hf : ∀ r ∈ l, 0 ≤ r.f ∧ r.f ≤ 1000) (hl : l.length ≤ 100000) (hn : (ats l).length ≤ 100000) :
    Calls Tryd.prog 17 #[v] w fun e w' => ∃ u, e = .returned u ∧ w'.ownsRow w.heap.size 42 4 u (ats l).length (acs (ats l)) ∧ Below w.heap.size w w' := by
  obtain ⟨i0, hi, hz0, hz1, hz2⟩ := info_parts Tryd.infoAtm
  have hT : ∀ k (hk : k < l.length), ats (l.take (k + 1)) = ats (l.take k) ++ l[k].ats := fun k hk => by
    rw [List.take_succ_eq_append_getElem hk, ats_append, ats_cons, ats_nil, List.append_nil]
  have hLe : ∀ k, (ats (l.take k)).length ≤ (ats l).length := fun k => by
    conv => rhs; rw [← List.take_append_drop k l, ats_append, List.length_append]
    omega
  obtain ⟨ao, cp, rfl, _, hcs⟩ := hr
  go_enter Tryd.func17, Tryd.ntmps17
  go_wp2_with fail
  go_loopw [3, 4] (fun u i wr => ∃ k : Nat, k ≤ l.length ∧ i = .int .i64 (k : Int) ∧ wr.ownsRow w.heap.size 42 4 u (ats (l.take k)).length (acs (ats (l.take k))) ∧ Below w.heap.size w wr) (fun _ i _ => l.length - (Go.RowKit.intOf i).toNat)
  case atStart => exact ⟨0, Nat.zero_le _, rfl, World.ownsRow_nil _ _ _ _, Below.refl _ _⟩
  case round =>
    obtain ⟨k, hk, rfl, ho, hb⟩ := hrel
    by_cases hlt : k < l.length
    · have hlt' : (k : Int) < (l.length : Int) := by omega
      obtain ⟨b, off, rfl, hbw, c0, c1, c2, c3⟩ := hcs k l[k] (by simp [hlt])
      have hkm : l[k] ∈ l := by simp
      have hv := cpl_valid (s := l[k].t) (by have := hok _ hkm; unfold RunD.Ok at this; omega)
      have hpt := fun W => refPoints_ok l[k].t _ W (hsz _ hkm) hv
      have hfk := hf _ hkm
      have HT : Hid (ats (l.take (k + 1)) = ats (l.take k) ++ atG l[k].c l[k].q l[k].f (pts l[k].t)) := hT k hlt
      have hN2 : (ats (l.take k)).length + (pts l[k].t).length ≤ 100000 := by
        have := hLe (k + 1)
        rw [hT k hlt, List.length_append, RunD.ats, atG_len] at this
        omega
      have hpl : (cpl l[k].t).toNat = (pts l[k].t).length := by have := pts_len (t := l[k].t) (by have := hok _ hkm; unfold RunD.Ok at this; omega); omega
      have hpe : ptL l[k].t (cpl l[k].t).toNat = pts l[k].t := rfl
      rw [hpe, hpl] at hpt
      have g : ∀ W, Below w.heap.size w W → ∀ j, W.cell? ⟨b, j, none⟩ = w.cell? ⟨b, j, none⟩ := fun W hW j => hW.cell (p := ⟨b, j, none⟩) hbw
      have hcell : ∀ W, Below w.heap.size w W → W.cell? ⟨b, off + k * 4, none⟩ = some (.int .i64 l[k].c) ∧ W.cell? ⟨b, off + k * 4 + 1, none⟩ = some (.int .i64 l[k].q) ∧ W.cell? ⟨b, off + k * 4 + 2, none⟩ = some (.int .i64 l[k].f) ∧ W.cell? ⟨b, off + k * 4 + 3, none⟩ = some (.string l[k].t) := fun W hW => by
        rw [g W hW, g W hW, g W hW, g W hW]; exact ⟨c0, c1, c2, c3⟩
      clear c0 c1 c2 c3 hcs hok hsz hf hT hLe hv hpl hpe g
      generalize pts l[k].t = P at *
      generalize l[k] = r at *
      generalize ats (l.take k) = X at *
      obtain ⟨a1, k1, rfl⟩ := own_form ho
      obtain ⟨-, -, -, d3⟩ := hcell _ hb
      go_wp2_with fail
      refine (hpt _).mono ?_
      rintro e w2 ⟨v5, rfl, ho5, hb2⟩
      have hsz2 := hb.size
      replace hb := chain hb hb2
      replace ho := own_belowG ho hb2
      replace ho5 := own_lower ho5 hsz2
      obtain ⟨a5, k5, rfl⟩ := own_form ho5
      clear hpt d3 hb2
      go_wp2_with fail
      obtain ⟨wq, rfl⟩ : ∃ y, y = wr := ⟨_, rfl⟩
      go_loopw [3, 7] (fun u i wr => ∃ j : Nat, j ≤ P.length ∧ i = .int .i64 (j : Int) ∧ wr.ownsRow w.heap.size 42 4 u (X ++ atG r.c r.q r.f (P.take j)).length (acs (X ++ atG r.c r.q r.f (P.take j))) ∧ wr.ownsRow w.heap.size 3 1 (.slice a5 P.length k5) P.length (iv P) ∧ Below w.heap.size w wr) (fun _ i _ => P.length - (Go.RowKit.intOf i).toNat)
      case atStart => exact ⟨0, Nat.zero_le _, rfl, by simpa [atG] using ho, ho5, hb⟩
      case round =>
        obtain ⟨j, hj, rfl, hoj, hpj, hbj⟩ := hrel
        clear ho ho5 hb
        obtain ⟨a3, k3, hu3⟩ := own_form hoj
        by_cases hlj : j < P.length
        · have hlj' : (j : Int) < (P.length : Int) := by omega
          obtain ⟨z, hz⟩ : ∃ z, P[j]? = some z := ⟨P[j], by simp [hlj]⟩
          obtain ⟨g5, c5, e5, -, -⟩ := hpj.form (by omega)
          injection e5 with e51 _ e53
          subst e51
          subst e53
          have hzc := hpj.cells (g := g5) rfl j (.int .i64 z) (iv_get hz)
          rw [addr4, Nat.zero_add] at hzc
          have HA : Hid (X ++ atG r.c r.q r.f (P.take (j + 1)) = (X ++ atG r.c r.q r.f (P.take j)) ++ [⟨r.c, r.q, r.f + (j : Int), z⟩]) := by show _ = _; rw [atG_take1 _ _ _ _ _ _ hz, List.append_assoc]
          have hYl : (X ++ atG r.c r.q r.f (P.take j)).length ≤ 100000 := by rw [List.length_append, atG_len, List.length_take]; omega
          have hjf : 0 ≤ r.f + (j : Int) ∧ r.f + (j : Int) ≤ 9223372036854775807 := by omega
          generalize X ++ atG r.c r.q r.f (P.take j) = Y at *
          subst hu3
          obtain ⟨d0, d1, d2, -⟩ := hcell _ hbj
          have hap : (Value.slice (some ⟨g5, 0, none⟩) P.length k5).ownBlock = none ∨ (Value.slice (some ⟨g5, 0, none⟩) P.length k5).ownBlock ≠ (Value.slice a3 Y.length k3).ownBlock := own_apart hpj hoj (by decide)
          clear hz
          have hwr : IntKind.i64.wrap (r.f + (j : Int)) = r.f + (j : Int) := by rw [IntKind.wrap_i64]; omega
          go_wp2_with fail
          go_region_law (refine step_append_lies _ (by rfl) (.tmp 29) (.tmp 47) 36 (by rfl) w.heap.size 42 i0 (.agg #[.int .i64 0, .int .i64 0, .int .i64 0, .int .i64 0]) 4 32 Tryd.underlying36 hi hz0 hz1 hz2 rfl (by decide) (.slice a3 Y.length k3) Y.length (acs Y) (by simp [Act.eval]) (World.ownsRow.alloc (w := wr.drew) hoj _) ⟨wr.heap.size, 0, none⟩ 1 1 [.int .i64 r.c, .int .i64 r.q, .int .i64 (r.f + (j : Int)), .int .i64 z] (by simp [Act.eval]) rfl (World.news_of_block (heap_alloc_new wr.drew _)) (by simp [Value.oneCell']) (by decide) (by unfold maxLen; omega) (by omega) (by have := hbj.size; simp; omega) (wr.heap.size + 1) (by simp) ?_; intro g cap w7 hown hgr hg hlt7)
          all_goals (go_wp2_with fail)
          all_goals exact ⟨⟨j + 1, by omega, by go_num, by rw [HA.out, acs_append, acs_one, List.length_append]; exact hown, World.ownsRow.kept (w := (wr.alloc _).drew) (World.ownsRow.alloc hpj _) hgr hap, (Below.drew (hbj.alloc hbj.size _)).grown hgr (by have := hbj.size; simp; omega) (fun k hk => (hoj.lt k hk).1)⟩, by simp [Go.RowKit.intOf]; omega⟩
        · obtain rfl : j = P.length := by omega
          rw [List.take_length] at hoj
          rw [List.take_length] at hu3
          clear hcell
          subst hu3
          go_wp2_with fail
          exact ⟨⟨k + 1, by omega, by go_num, by rw [HT.out]; exact hoj, hbj⟩, by simp [Go.RowKit.intOf]; omega⟩
    · obtain rfl : k = l.length := by omega
      rw [List.take_length] at ho
      obtain ⟨a1, k1, rfl⟩ := own_form ho
      clear hcs
      go_wp2_with fail
      go_ret
      exact ⟨_, rfl, ho, hb⟩

/-- Are two the same atom? -/
def Atm.same (x y : Atm) : Bool := decide (x.key = y.key)
set_option maxRecDepth 20000 in
set_option maxHeartbeats 1000000 in
theorem is_any (x y : Atm) (w : World) :
    Calls Tryd.prog 40 #[.agg #[.int .i64 x.c, .int .i64 x.q, .int .i64 x.n, .int .i64 x.z], .agg #[.int .i64 y.c, .int .i64 y.q, .int .i64 y.n, .int .i64 y.z]] w fun e w' => e = .returned (.bool (x.same y)) ∧ Below w.heap.size w w' := by
  have hb : Below w.heap.size w ((w.alloc (.cells #[.int .i64 x.c, .int .i64 x.q, .int .i64 x.n, .int .i64 x.z] 42)).alloc (.cells #[.int .i64 y.c, .int .i64 y.q, .int .i64 y.n, .int .i64 y.z] 42)) := ((Below.refl _ w).alloc (Nat.le_refl _) _).alloc (by simp) _
  by_cases h1 : x.c = y.c
  · have h1' : (x.c == y.c) = true := by simp [h1]
    by_cases h2 : x.q = y.q
    · have h2' : (x.q == y.q) = true := by simp [h2]
      by_cases h3 : x.n = y.n
      · have H : Hid (x.same y = true) := by show _ = _; simp [Atm.same, Atm.key, h1, h2, h3]
        have h3' : (x.n == y.n) = true := by simp [h3]
        clear h1 h2 h3
        go_enter Tryd.func40, Tryd.ntmps40
        go_wp2_with fail
        go_ret
        rw [H.out]
        exact ⟨rfl, hb⟩
      · have H : Hid (x.same y = false) := by show _ = _; simp [Atm.same, Atm.key, h3]
        have h3' : (x.n == y.n) = false := by simp [h3]
        clear h1 h2 h3
        go_enter Tryd.func40, Tryd.ntmps40
        go_wp2_with fail
        go_ret
        rw [H.out]
        exact ⟨rfl, hb⟩
    · have H : Hid (x.same y = false) := by show _ = _; simp [Atm.same, Atm.key, h2]
      have h2' : (x.q == y.q) = false := by simp [h2]
      clear h1 h2
      go_enter Tryd.func40, Tryd.ntmps40
      go_wp2_with fail
      go_ret
      rw [H.out]
      exact ⟨rfl, hb⟩
  · have H : Hid (x.same y = false) := by show _ = _; simp [Atm.same, Atm.key, h1]
    have h1' : (x.c == y.c) = false := by simp [h1]
    clear h1
    go_enter Tryd.func40, Tryd.ntmps40
    go_wp2_with fail
    go_ret
    rw [H.out]
    exact ⟨rfl, hb⟩
end Go.Proofs.YtofmficdfkeffaaDoor
