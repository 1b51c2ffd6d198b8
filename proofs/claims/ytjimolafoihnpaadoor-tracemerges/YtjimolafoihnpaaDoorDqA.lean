/-
  Atoms as cells; the contracts of the reference's Is and Atoms.
-/
import Derived.Test.YtjimolafoihnpaaDoorDpG
import Derived.Test.YtjimolafoihnpaaDoorTxFirstP
import Derived.Deep.RegionLaw
import Derived.Deep.AppendLies
import Derived.Test.YtjimolafoihnpaaDoorBeh
import Derived.BigQuiet
import Derived.Test.YtjimolafoihnpaaDoorDlL
namespace Go.Proofs.YtjimolafoihnpaaDoor
open Go.ChangeShapes Go.WideShapes Go.ChangeAt Go.RowKit Go.PlainAid

theorem Tryd.infoAtm : (Tryd.prog.info? 80).map (fun i => (i.zero, i.size, i.bytes)) = some (some (.agg #[.int .i64 0, .int .i64 0, .int .i64 0, .int .i64 0]), 4, 32) := by kernel_rfl
/-- Atoms as cells. -/
def acs (l : List Atm) : List Value := (l.map fun x => [Value.int .i64 x.c, .int .i64 x.q, .int .i64 x.n, .int .i64 x.z]).flatten
theorem acs_append (a b : List Atm) : acs (a ++ b) = acs a ++ acs b := by simp [acs]
theorem acs_one (x : Atm) : acs [x] = [Value.int .i64 x.c, .int .i64 x.q, .int .i64 x.n, .int .i64 x.z] := by simp [acs]
theorem acs_cons (x : Atm) (l : List Atm) : acs (x :: l) = .int .i64 x.c :: .int .i64 x.q :: .int .i64 x.n :: .int .i64 x.z :: acs l := by simp [acs]
theorem acs_length : ∀ (l : List Atm), (acs l).length = l.length * 4
  | [] => rfl
  | x :: l => by rw [acs_cons]; simp only [List.length_cons, acs_length l]; omega
theorem acs_at : ∀ (l : List Atm) (i : Nat) (x : Atm), l[i]? = some x → (acs l)[i * 4]? = some (.int .i64 x.c) ∧ (acs l)[i * 4 + 1]? = some (.int .i64 x.q) ∧ (acs l)[i * 4 + 2]? = some (.int .i64 x.n) ∧ (acs l)[i * 4 + 3]? = some (.int .i64 x.z)
  | [], i, x, h => by simp at h
  | y :: l, 0, x, h => by simp at h; subst h; simp [acs_cons]
  | y :: l, i + 1, x, h => by
    have := acs_at l i x (by simpa using h)
    rw [acs_cons, show (i + 1) * 4 = i * 4 + 1 + 1 + 1 + 1 by omega]
    simpa using this
/-- Atoms in the world. -/
def RdA (w : World) (v : Value) (l : List Atm) : Prop :=
  ∃ (ao : Option Addr) (cp : Nat), v = .slice ao l.length cp ∧ l.length ≤ cp ∧ ∀ i x, l[i]? = some x → ∃ b off, ao = some ⟨b, off, none⟩ ∧ b < w.heap.size ∧
    w.cell? ⟨b, off + i * 4, none⟩ = some (.int .i64 x.c) ∧ w.cell? ⟨b, off + i * 4 + 1, none⟩ = some (.int .i64 x.q) ∧ w.cell? ⟨b, off + i * 4 + 2, none⟩ = some (.int .i64 x.n) ∧ w.cell? ⟨b, off + i * 4 + 3, none⟩ = some (.int .i64 x.z)
theorem RdA.below {w w' : World} {v : Value} {l : List Atm} (h : RdA w v l) (hb : Below w.heap.size w w') : RdA w' v l := by
  obtain ⟨ao, cp, e, hc, h⟩ := h
  refine ⟨ao, cp, e, hc, fun i r hr => ?_⟩
  obtain ⟨b, off, e1, h1, c0, c1, c2, c3⟩ := h i r hr
  have g : ∀ j, w'.cell? ⟨b, j, none⟩ = w.cell? ⟨b, j, none⟩ := fun j => hb.cell (p := ⟨b, j, none⟩) h1
  exact ⟨b, off, e1, Nat.lt_of_lt_of_le h1 hb.size, by rw [g]; exact c0, by rw [g]; exact c1, by rw [g]; exact c2, by rw [g]; exact c3⟩
theorem rda_own {W : World} {B : Nat} {v : Value} {l : List Atm} (h : W.ownsRow B 80 4 v l.length (acs l)) : RdA W v l := by
  rcases h.2 with ⟨rfl, h0⟩ | ⟨g, cap, cur, rfl, _, hg, hn, _, _, ht⟩
  · have : l = [] := List.length_eq_zero_iff.1 h0
    subst this
    exact ⟨none, 0, rfl, Nat.le_refl _, fun i x hx => by simp at hx⟩
  · refine ⟨_, _, rfl, hn, fun i x hx => ⟨g, 0, rfl, heap_lt hg, ?_⟩⟩
    obtain ⟨e0, e1, e2, e3⟩ := acs_at l i x hx
    have q := h.cells (g := g) rfl
    have q0 := q _ _ e0
    have q1 := q _ _ e1
    have q2 := q _ _ e2
    have q3 := q _ _ e3
    rw [addr4] at q0 q1 q2 q3
    exact ⟨q0, by rw [Nat.add_assoc]; exact q1, by rw [Nat.add_assoc]; exact q2, by rw [Nat.add_assoc]; exact q3⟩
theorem atG_at (c q : Int) : ∀ (zs : List Int) (n : Int) (i : Nat) (z : Int), zs[i]? = some z → (atG c q n zs)[i]? = some ⟨c, q, n + (i : Int), z⟩
  | [], n, i, z, h => by simp at h
  | y :: zs, n, 0, z, h => by simp at h; subst h; simp [atG]
  | y :: zs, n, i + 1, z, h => by
    rw [atG, List.getElem?_cons_succ, atG_at c q zs (n + 1) i z (by simpa using h)]
    congr 2
    omega
theorem atG_take1 (c q n : Int) (zs : List Int) (i : Nat) (z : Int) (h : zs[i]? = some z) : atG c q n (zs.take (i + 1)) = atG c q n (zs.take i) ++ [⟨c, q, n + (i : Int), z⟩] := by
  have hi : i < zs.length := (List.getElem?_eq_some_iff.1 h).1
  have e : (atG c q n zs)[i]? = some ⟨c, q, n + (i : Int), z⟩ := atG_at c q zs n i z h
  have hi2 : i < (atG c q n zs).length := by rw [atG_len]; exact hi
  rw [← atG_take, ← atG_take, List.take_succ_eq_append_getElem hi2]
  congr 2
  have := List.getElem?_eq_getElem hi2
  rw [e] at this
  exact (Option.some.inj this).symm

theorem iv_get {P : List Int} {j : Nat} {z : Int} (h : P[j]? = some z) : (iv P)[j]? = some (.int .i64 z) := by simp [iv, h]

set_option maxRecDepth 20000 in
set_option maxHeartbeats 1000000 in
theorem atoms_any (v : Value) (l : List RunD) (w : World) (hr : RdN w v l) (hok : ∀ r ∈ l, r.Ok) (hsz : ∀ r ∈ l, r.t.size ≤ 1048576) (hf : ∀ r ∈ l, 0 ≤ r.f ∧ r.f ≤ 1000) (hl : l.length ≤ 100000) (hn : (ats l).length ≤ 100000) :
    Calls Tryd.prog 56 #[v] w fun e w' => ∃ u, e = .returned u ∧ w'.ownsRow w.heap.size 80 4 u (ats l).length (acs (ats l)) ∧ Below w.heap.size w w' := by
  obtain ⟨i0, hi, hz0, hz1, hz2⟩ := info_parts Tryd.infoAtm
  have hT : ∀ k (hk : k < l.length), ats (l.take (k + 1)) = ats (l.take k) ++ l[k].ats := fun k hk => by
    rw [List.take_succ_eq_append_getElem hk, ats_append, ats_cons, ats_nil, List.append_nil]
  have hLe : ∀ k, (ats (l.take k)).length ≤ (ats l).length := fun k => by
    conv => rhs; rw [← List.take_append_drop k l, ats_append, List.length_append]
    omega
  obtain ⟨ao, cp, rfl, _, hcs⟩ := hr
  go_enter Tryd.func56, Tryd.ntmps56
  go_wp2_with fail
  go_loopw [3, 4] (fun u i wr => ∃ k : Nat, k ≤ l.length ∧ i = .int .i64 (k : Int) ∧ wr.ownsRow w.heap.size 80 4 u (ats (l.take k)).length (acs (ats (l.take k))) ∧ Below w.heap.size w wr) (fun _ i _ => l.length - (Go.RowKit.intOf i).toNat)
  case atStart => exact ⟨0, Nat.zero_le _, rfl, World.ownsRow_nil _ _ _ _, Below.refl _ _⟩
  case round =>
    obtain ⟨k, hk, rfl, ho, hb⟩ := hrel
    by_cases hlt : k < l.length
    · have hlt' : (k : Int) < (l.length : Int) := by omega
      obtain ⟨b, off, rfl, hbw, c0, c1, c2, c3⟩ := hcs k l[k] (by simp [hlt])
      have hkm : l[k] ∈ l := by simp
      have hv := cpl_valid (s := l[k].t) (by have := hok _ hkm; unfold RunD.Ok at this; omega)
      have hpt := fun W => refPoints_ok l[k].t _ W (hsz _ hkm) hv
      have hfk := hf _ hkm
      have HT : Hid (ats (l.take (k + 1)) = ats (l.take k) ++ atG l[k].c l[k].q l[k].f (pts l[k].t)) := hT k hlt
      have hN2 : (ats (l.take k)).length + (pts l[k].t).length ≤ 100000 := by
        have := hLe (k + 1)
        rw [hT k hlt, List.length_append, RunD.ats, atG_len] at this
        omega
      have hpl : (cpl l[k].t).toNat = (pts l[k].t).length := by have := pts_len (t := l[k].t) (by have := hok _ hkm; unfold RunD.Ok at this; omega); omega
      have hpe : ptL l[k].t (cpl l[k].t).toNat = pts l[k].t := rfl
      rw [hpe, hpl] at hpt
      have g : ∀ W, Below w.heap.size w W → ∀ j, W.cell? ⟨b, j, none⟩ = w.cell? ⟨b, j, none⟩ := fun W hW j => hW.cell (p := ⟨b, j, none⟩) hbw
      have hcell : ∀ W, Below w.heap.size w W → W.cell? ⟨b, off + k * 4, none⟩ = some (.int .i64 l[k].c) ∧ W.cell? ⟨b, off + k * 4 + 1, none⟩ = some (.int .i64 l[k].q) ∧ W.cell? ⟨b, off + k * 4 + 2, none⟩ = some (.int .i64 l[k].f) ∧ W.cell? ⟨b, off + k * 4 + 3, none⟩ = some (.string l[k].t) := fun W hW => by
        rw [g W hW, g W hW, g W hW, g W hW]; exact ⟨c0, c1, c2, c3⟩
      clear c0 c1 c2 c3 hcs hok hsz hf hT hLe hv hpl hpe g
      generalize pts l[k].t = P at *
      generalize l[k] = r at *
      generalize ats (l.take k) = X at *
      obtain ⟨a1, k1, rfl⟩ := own_form ho
      obtain ⟨-, -, -, d3⟩ := hcell _ hb
      go_wp2_with fail
      refine (hpt _).mono ?_
      rintro e w2 ⟨v5, rfl, ho5, hb2⟩
      have hsz2 := hb.size
      replace hb := chain hb hb2
      replace ho := own_belowG ho hb2
      replace ho5 := own_lower ho5 hsz2
      obtain ⟨a5, k5, rfl⟩ := own_form ho5
      clear hpt d3 hb2
      go_wp2_with fail
      obtain ⟨wq, rfl⟩ : ∃ y, y = wr := ⟨_, rfl⟩
      go_loopw [3, 7] (fun u i wr => ∃ j : Nat, j ≤ P.length ∧ i = .int .i64 (j : Int) ∧ wr.ownsRow w.heap.size 80 4 u (X ++ atG r.c r.q r.f (P.take j)).length (acs (X ++ atG r.c r.q r.f (P.take j))) ∧ wr.ownsRow w.heap.size 3 1 (.slice a5 P.length k5) P.length (iv P) ∧ Below w.heap.size w wr) (fun _ i _ => P.length - (Go.RowKit.intOf i).toNat)
      case atStart => exact ⟨0, Nat.zero_le _, rfl, by simpa [atG] using ho, ho5, hb⟩
      case round =>
        obtain ⟨j, hj, rfl, hoj, hpj, hbj⟩ := hrel
        clear ho ho5 hb
        obtain ⟨a3, k3, hu3⟩ := own_form hoj
        by_cases hlj : j < P.length
        · have hlj' : (j : Int) < (P.length : Int) := by omega
          obtain ⟨z, hz⟩ : ∃ z, P[j]? = some z := ⟨P[j], by simp [hlj]⟩
          obtain ⟨g5, c5, e5, -, -⟩ := hpj.form (by omega)
          injection e5 with e51 _ e53
          subst e51
          subst e53
          have hzc := hpj.cells (g := g5) rfl j (.int .i64 z) (iv_get hz)
          rw [addr4, Nat.zero_add] at hzc
          have HA : Hid (X ++ atG r.c r.q r.f (P.take (j + 1)) = (X ++ atG r.c r.q r.f (P.take j)) ++ [⟨r.c, r.q, r.f + (j : Int), z⟩]) := by show _ = _; rw [atG_take1 _ _ _ _ _ _ hz, List.append_assoc]
          have hYl : (X ++ atG r.c r.q r.f (P.take j)).length ≤ 100000 := by rw [List.length_append, atG_len, List.length_take]; omega
          have hjf : 0 ≤ r.f + (j : Int) ∧ r.f + (j : Int) ≤ 9223372036854775807 := by omega
          generalize X ++ atG r.c r.q r.f (P.take j) = Y at *
          subst hu3
          obtain ⟨d0, d1, d2, -⟩ := hcell _ hbj
          have hap : (Value.slice (some ⟨g5, 0, none⟩) P.length k5).ownBlock = none ∨ (Value.slice (some ⟨g5, 0, none⟩) P.length k5).ownBlock ≠ (Value.slice a3 Y.length k3).ownBlock := own_apart hpj hoj (by decide)
          clear hz
          have hwr : IntKind.i64.wrap (r.f + (j : Int)) = r.f + (j : Int) := by rw [IntKind.wrap_i64]; omega
          go_wp2_with fail
          go_region_law (refine step_append_lies _ (by rfl) (.tmp 29) (.tmp 47) 73 (by rfl) w.heap.size 80 i0 (.agg #[.int .i64 0, .int .i64 0, .int .i64 0, .int .i64 0]) 4 32 Tryd.underlying73 hi hz0 hz1 hz2 rfl (by decide) (.slice a3 Y.length k3) Y.length (acs Y) (by simp [Act.eval]) (World.ownsRow.alloc (w := wr.drew) hoj _) ⟨wr.heap.size, 0, none⟩ 1 1 [.int .i64 r.c, .int .i64 r.q, .int .i64 (r.f + (j : Int)), .int .i64 z] (by simp [Act.eval]) rfl (World.news_of_block (heap_alloc_new wr.drew _)) (by simp [Value.oneCell']) (by decide) (by unfold maxLen; omega) (by omega) (by have := hbj.size; simp; omega) (wr.heap.size + 1) (by simp) ?_; intro g cap w7 hown hgr hg hlt7)
          all_goals (go_wp2_with fail)
          all_goals exact ⟨⟨j + 1, by omega, by go_num, by rw [HA.out, acs_append, acs_one, List.length_append]; exact hown, World.ownsRow.kept (w := (wr.alloc _).drew) (World.ownsRow.alloc hpj _) hgr hap, (Below.drew (hbj.alloc hbj.size _)).grown hgr (by have := hbj.size; simp; omega) (fun k hk => (hoj.lt k hk).1)⟩, by simp [Go.RowKit.intOf]; omega⟩
        · obtain rfl : j = P.length := by omega
          rw [List.take_length] at hoj
          rw [List.take_length] at hu3
          clear hcell
          subst hu3
          go_wp2_with fail
          exact ⟨⟨k + 1, by omega, by go_num, by rw [HT.out]; exact hoj, hbj⟩, by simp [Go.RowKit.intOf]; omega⟩
    · obtain rfl : k = l.length := by omega
      rw [List.take_length] at ho
      obtain ⟨a1, k1, rfl⟩ := own_form ho
      clear hcs
      go_wp2_with fail
      go_ret
      exact ⟨_, rfl, ho, hb⟩

/-- Are two the same atom? -/
def Atm.same (x y : Atm) : Bool := decide (x.key = y.key)
set_option maxRecDepth 20000 in
set_option maxHeartbeats 1000000 in
theorem is_any (x y : Atm) (w : World) :
    Calls Tryd.prog 58 #[.agg #[.int .i64 x.c, .int .i64 x.q, .int .i64 x.n, .int .i64 x.z], .agg #[.int .i64 y.c, .int .i64 y.q, .int .i64 y.n, .int .i64 y.z]] w fun e w' => e = .returned (.bool (x.same y)) ∧ Below w.heap.size w w' := by
  have hb : Below w.heap.size w ((w.alloc (.cells #[.int .i64 x.c, .int .i64 x.q, .int .i64 x.n, .int .i64 x.z] 80)).alloc (.cells #[.int .i64 y.c, .int .i64 y.q, .int .i64 y.n, .int .i64 y.z] 80)) := ((Below.refl _ w).alloc (Nat.le_refl _) _).alloc (by simp) _
  by_cases h1 : x.c = y.c
  · have h1' : (x.c == y.c) = true := by simp [h1]
    by_cases h2 : x.q = y.q
    · have h2' : (x.q == y.q) = true := by simp [h2]
      by_cases h3 : x.n = y.n
      · have H : Hid (x.same y = true) := by show _ = _; simp [Atm.same, Atm.key, h1, h2, h3]
        have h3' : (x.n == y.n) = true := by simp [h3]
        clear h1 h2 h3
        go_enter Tryd.func58, Tryd.ntmps58
        go_wp2_with fail
        go_ret
        rw [H.out]
        exact ⟨rfl, hb⟩
      · have H : Hid (x.same y = false) := by show _ = _; simp [Atm.same, Atm.key, h3]
        have h3' : (x.n == y.n) = false := by simp [h3]
        clear h1 h2 h3
        go_enter Tryd.func58, Tryd.ntmps58
        go_wp2_with fail
        go_ret
        rw [H.out]
        exact ⟨rfl, hb⟩
    · have H : Hid (x.same y = false) := by show _ = _; simp [Atm.same, Atm.key, h2]
      have h2' : (x.q == y.q) = false := by simp [h2]
      clear h1 h2
      go_enter Tryd.func58, Tryd.ntmps58
      go_wp2_with fail
      go_ret
      rw [H.out]
      exact ⟨rfl, hb⟩
  · have H : Hid (x.same y = false) := by show _ = _; simp [Atm.same, Atm.key, h1]
    have h1' : (x.c == y.c) = false := by simp [h1]
    clear h1
    go_enter Tryd.func58, Tryd.ntmps58
    go_wp2_with fail
    go_ret
    rw [H.out]
    exact ⟨rfl, hb⟩
end Go.Proofs.YtjimolafoihnpaaDoor

/-
  What is kept, and what is new, behind a delta: looked at from the front. No walk.
-/
namespace Go.Proofs.YtjimolafoihnpaaDoor
open Go.ChangeShapes Go.WideShapes Go.ChangeAt Go.RowKit Go.PlainAid

/-- How many atoms of this origin stand at the front. -/
def lead (c q : Int) : List Atm → Nat
  | [] => 0
  | x :: l => if x.c = c ∧ x.q = q then lead c q l + 1 else 0
theorem lead_le (c q : Int) : ∀ (l : List Atm), lead c q l ≤ l.length
  | [] => Nat.le_refl _
  | x :: l => by
    rw [lead]
    split
    · have := lead_le c q l; simp; omega
    · omega
theorem lead_at (c q : Int) : ∀ (l : List Atm) (i : Nat) (x : Atm), i < lead c q l → l[i]? = some x → x.c = c ∧ x.q = q
  | [], i, x, h, _ => by simp [lead] at h
  | y :: l, 0, x, h, e => by
    simp at e
    subst e
    rw [lead] at h
    split at h
    · assumption
    · omega
  | y :: l, i + 1, x, h, e => by
    rw [lead] at h
    split at h
    · exact lead_at c q l i x (by omega) (by simpa using e)
    · omega
theorem lead_end (c q : Int) : ∀ (l : List Atm) (x : Atm), l[lead c q l]? = some x → ¬ (x.c = c ∧ x.q = q)
  | [], x, h => by simp at h
  | y :: l, x, h => by
    rw [lead] at h
    split at h
    · exact lead_end c q l x (by simpa using h)
    · rename_i hn
      simp at h
      subst h
      exact hn
theorem lead_atG (c q : Int) : ∀ (zs : List Int) (n : Int) (Y : List Atm), lead c q (atG c q n zs ++ Y) = zs.length + lead c q Y
  | [], n, Y => by simp [atG]
  | z :: zs, n, Y => by
    rw [atG, List.cons_append, lead, if_pos ⟨rfl, rfl⟩, lead_atG c q zs (n + 1) Y]
    simp
    omega
theorem lead_no (c q : Int) {x : Atm} {l : List Atm} (h : ¬ (x.c = c ∧ x.q = q)) : lead c q (x :: l) = 0 := by rw [lead, if_neg h]
/-- The new atoms at the front are numbered on. -/
theorem ap_num (c q : Int) : ∀ (ds : List St) (A : List Atm) (n : Int), (∀ s ∈ ds, s.Ok) → (∀ x ∈ A, ¬ (x.c = c ∧ x.q = q)) → ∀ (i : Nat) (x : Atm), i < lead c q (apA c q A n ds) → (apA c q A n ds)[i]? = some x → x.n = n + (i : Int)
  | [], A, n, _, _, i, x, h, _ => by simp [apA, lead] at h
  | .keep k :: ds, A, n, ho, hA, i, x, h, e => by
    have ho' : ∀ s ∈ ds, s.Ok := fun s hs => ho s (by simp [hs])
    rw [apA] at h e
    cases hT : A.take k with
    | nil =>
      rw [hT, List.nil_append] at h e
      exact ap_num c q ds (A.drop k) n ho' (fun x hx => hA x (List.mem_of_mem_drop hx)) i x h e
    | cons y r =>
      rw [hT, List.cons_append, lead_no c q (hA y (List.mem_of_mem_take (by rw [hT]; simp)))] at h
      omega
  | .rem k :: ds, A, n, ho, hA, i, x, h, e => by
    rw [apA] at h e
    exact ap_num c q ds (A.drop k) n (fun s hs => ho s (by simp [hs])) (fun x hx => hA x (List.mem_of_mem_drop hx)) i x h e
  | .ins t :: ds, A, n, ho, hA, i, x, h, e => by
    have ht : 0 < cpl t := (ho (.ins t) (by simp)).1
    have hpl := pts_len (t := t) (by omega)
    rw [apA] at h e
    rw [lead_atG] at h
    by_cases hi : i < (pts t).length
    · rw [List.getElem?_append_left (by rw [atG_len]; exact hi)] at e
      rw [atG_at c q (pts t) n i (pts t)[i] (by simp [hi])] at e
      cases e
      rfl
    · rw [List.getElem?_append_right (by rw [atG_len]; omega), atG_len] at e
      have := ap_num c q ds A (n + cpl t) (fun s hs => ho s (by simp [hs])) hA (i - (pts t).length) x (by omega) e
      omega
/-- A delta's way through a document: what is still to come. -/
structure Wy (c q : Int) (A b : List Atm) (S : List St) (i t x : Nat) (n : Int) (P : List Atm) : Prop where
  hi : i ≤ S.length
  ht : t + bsum (S.drop i) = A.length
  hb : b = P ++ apA c q (A.drop t) n (S.drop i)
  hx : x = 0 ∨ x = lead c q (apA c q (A.drop t) n (S.drop i))
  n0 : 0 ≤ n
  n1 : n + isum (S.drop i) ≤ 1000
theorem Wy.start {c q : Int} {A b : List Atm} {S : List St} (h1 : bsum S = A.length) (h2 : b = apA c q A 0 S) (h3 : isum S ≤ 1000) : Wy c q A b S 0 0 0 0 [] :=
  ⟨Nat.zero_le _, by simpa using h1, by simpa using h2, .inl rfl, by omega, by simpa using h3⟩
theorem drop_S {S : List St} {i : Nat} (h : i < S.length) : S.drop i = S[i] :: S.drop (i + 1) := List.drop_eq_getElem_cons h
theorem Wy.fin {c q : Int} {A b : List Atm} {S : List St} {t x : Nat} {n : Int} {P : List Atm} (h : Wy c q A b S S.length t x n P) : P.length + x = b.length := by
  have hb := h.hb
  have hx := h.hx
  rw [List.drop_length, apA] at hb hx
  rw [List.append_nil] at hb
  rw [hb]
  rcases hx with rfl | rfl <;> simp [lead]
theorem Wy.rem {c q : Int} {A b : List Atm} {S : List St} {i t x k : Nat} {n : Int} {P : List Atm} (h : Wy c q A b S i t x n P) (hi : i < S.length) (hs : S[i] = .rem k) : Wy c q A b S (i + 1) (t + k) x n P := by
  have hb := h.hb
  have hx := h.hx
  have ht := h.ht
  have h1 := h.n1
  rw [drop_S hi, hs] at hb hx ht h1
  rw [apA, List.drop_drop] at hb hx
  exact ⟨by omega, by simp [bsum, St.b] at ht ⊢; omega, hb, hx, h.n0, h1⟩
theorem Wy.keep {c q : Int} {A b : List Atm} {S : List St} {i t x k : Nat} {n : Int} {P : List Atm} (h : Wy c q A b S i t x n P) (hi : i < S.length) (hs : S[i] = .keep k) (hk : 1 ≤ k) (hA : ∀ y ∈ A, ¬ (y.c = c ∧ y.q = q)) :
    x = 0 ∧ t + k ≤ A.length ∧ (∀ j, j < k → b[P.length + j]? = A[t + j]?) ∧ P.length + k ≤ b.length ∧ Wy c q A b S (i + 1) (t + k) 0 n (P ++ (A.drop t).take k) ∧ (P ++ (A.drop t).take k).length = P.length + k := by
  have hb := h.hb
  have hx := h.hx
  have ht := h.ht
  have h1 := h.n1
  rw [drop_S hi, hs] at hb hx ht h1
  rw [apA, List.drop_drop] at hb hx
  have htk : t + k ≤ A.length := by simp [bsum, St.b] at ht; omega
  have hl : ((A.drop t).take k).length = k := by rw [List.length_take, List.length_drop]; omega
  have hx0 : x = 0 := by
    rcases hx with hx | hx
    · exact hx
    · cases hT : (A.drop t).take k with
      | nil => rw [hT] at hl; simp at hl; omega
      | cons y r =>
        rw [hT, List.cons_append, lead_no c q (hA y (List.mem_of_mem_drop (List.mem_of_mem_take (by rw [hT]; simp))))] at hx
        exact hx
  refine ⟨hx0, htk, fun j hj => ?_, ?_, ⟨by omega, by simp [bsum, St.b] at ht ⊢; omega, by rw [List.append_assoc]; exact hb, .inl rfl, h.n0, h1⟩, by rw [List.length_append, hl]⟩
  · rw [hb, List.getElem?_append_right (by omega), Nat.add_sub_cancel_left, List.getElem?_append_left (by omega), List.getElem?_take, if_pos hj, List.getElem?_drop]
  · rw [hb, List.length_append, List.length_append, hl]; omega
theorem Wy.ins {c q : Int} {A b : List Atm} {S : List St} {i t x : Nat} {tt : ByteArray} {n : Int} {P : List Atm} (h : Wy c q A b S i t x n P) (hi : i < S.length) (hs : S[i] = .ins tt) (hok : ∀ s ∈ S, s.Ok) (hA : ∀ y ∈ A, ¬ (y.c = c ∧ y.q = q)) :
    ∃ m : Nat, x ≤ m ∧ P.length + m ≤ b.length ∧ n + (m : Int) ≤ 1000 ∧ (∀ j, x ≤ j → j < m → ∃ z, b[P.length + j]? = some ⟨c, q, n + (j : Int), z⟩) ∧ (∀ y, b[P.length + m]? = some y → ¬ (y.c = c ∧ y.q = q)) ∧
      ∃ (x' : Nat) (n' : Int) (P' : List Atm), Wy c q A b S (i + 1) t x' n' P' ∧ P'.length + x' = P.length + m ∧ n' + (x' : Int) = n + (m : Int) := by
  have hb := h.hb
  have hx := h.hx
  have ht := h.ht
  have h1 := h.n1
  have hokR : ∀ s ∈ S.drop i, s.Ok := fun s hs => hok s (List.mem_of_mem_drop hs)
  have hAd : ∀ y ∈ A.drop t, ¬ (y.c = c ∧ y.q = q) := fun y hy => hA y (List.mem_of_mem_drop hy)
  have hnum := ap_num c q (S.drop i) (A.drop t) n hokR hAd
  have htt : 0 < cpl tt := (hokR (.ins tt) (by rw [drop_S hi, hs]; simp)).1
  have hokR' : ∀ s ∈ S.drop (i + 1), s.Ok := fun s hs => hok s (List.mem_of_mem_drop hs)
  have hip := isum_pos hokR'
  have hpl := pts_len (t := tt) (by omega)
  obtain ⟨Z, hZ⟩ : ∃ Z, Z = apA c q (A.drop t) n (S.drop i) := ⟨_, rfl⟩
  rw [← hZ] at hb hx hnum
  have hle := lead_le c q Z
  have hnb : ∀ j y, j < lead c q Z → Z[j]? = some y → y = ⟨c, q, n + (j : Int), y.z⟩ := fun j y hj hy => by
    obtain ⟨e1, e2⟩ := lead_at c q Z j y hj hy
    have e3 := hnum j y hj hy
    cases y
    simp at e1 e2 e3
    rw [e1, e2, e3]
  have hZ2 : Z = atG c q n (pts tt) ++ apA c q (A.drop t) (n + cpl tt) (S.drop (i + 1)) := by rw [hZ, drop_S hi, hs, apA]
  have hlz : lead c q Z = (pts tt).length + lead c q (apA c q (A.drop t) (n + cpl tt) (S.drop (i + 1))) := by rw [hZ2, lead_atG]
  have hbd : n + ((lead c q Z : Nat) : Int) ≤ 1000 := by
    by_cases h0 : lead c q Z = 0
    · rw [h0]
      rw [drop_S hi, hs, isum] at h1
      omega
    · obtain ⟨y, hy⟩ : ∃ y, Z[lead c q Z - 1]? = some y := ⟨Z[lead c q Z - 1]'(by omega), by simp [show lead c q Z - 1 < Z.length by omega]⟩
      have e1 := hnb _ y (by omega) hy
      have hm : y ∈ Z := List.mem_of_getElem? hy
      rw [hZ] at hm
      rcases apA_mem c q _ _ _ hokR y hm with g | g
      · exact absurd (lead_at c q Z _ y (by omega) hy) (hAd y g)
      · have e2 : y.n = n + ((lead c q Z - 1 : Nat) : Int) := by rw [e1]
        have := g.2.2.2
        omega
  refine ⟨lead c q Z, ?_, by rw [hb, List.length_append]; omega, hbd, fun j hj1 hj2 => ?_, fun y hy => ?_, lead c q (apA c q (A.drop t) (n + cpl tt) (S.drop (i + 1))), n + cpl tt, P ++ atG c q n (pts tt), ⟨by omega, ?_, ?_, .inr rfl, by have := h.n0; omega, ?_⟩, ?_, ?_⟩
  · rcases hx with rfl | rfl <;> omega
  · obtain ⟨y, hy⟩ : ∃ y, Z[j]? = some y := ⟨Z[j]'(by omega), by simp [show j < Z.length by omega]⟩
    refine ⟨y.z, ?_⟩
    rw [hb, List.getElem?_append_right (by omega), Nat.add_sub_cancel_left, hy, ← hnb j y hj2 hy]
  · rw [hb, List.getElem?_append_right (by omega), Nat.add_sub_cancel_left] at hy
    exact lead_end c q Z y hy
  · rw [drop_S hi, hs] at ht; simp [bsum, St.b] at ht ⊢; omega
  · rw [List.append_assoc, ← hZ2]; exact hb
  · rw [drop_S hi, hs, isum] at h1; omega
  · rw [List.length_append, atG_len, hlz]; omega
  · rw [hlz]; omega
end Go.Proofs.YtjimolafoihnpaaDoor

/-
  A delta's way through a document, as the law's three counters see it. No walk.
-/
namespace Go.Proofs.YtjimolafoihnpaaDoor
open Go.ChangeShapes Go.WideShapes Go.ChangeAt Go.RowKit Go.PlainAid

/-- The counters at the step `i`: `t` behind the old atoms, `T` behind the new ones, `F` the next fresh number. -/
def Ws (c q : Int) (A b : List Atm) (S : List St) (i t T : Nat) (F : Int) : Prop :=
  ∃ (x : Nat) (n : Int) (P : List Atm), Wy c q A b S i t x n P ∧ P.length + x = T ∧ n + (x : Int) = F ∧ F ≤ 1000
theorem Ws.start {c q : Int} {A b : List Atm} {S : List St} (h1 : bsum S = A.length) (h2 : b = apA c q A 0 S) (h3 : isum S ≤ 1000) : Ws c q A b S 0 0 0 0 :=
  ⟨0, 0, [], Wy.start h1 h2 h3, rfl, rfl, by omega⟩
theorem Ws.fin {c q : Int} {A b : List Atm} {S : List St} {t T : Nat} {F : Int} (h : Ws c q A b S S.length t T F) : T = b.length := by
  obtain ⟨x, n, P, hw, rfl, -, -⟩ := h
  exact hw.fin
theorem Ws.bd {c q : Int} {A b : List Atm} {S : List St} {i t T : Nat} {F : Int} (h : Ws c q A b S i t T F) : i ≤ S.length ∧ t ≤ A.length ∧ T ≤ b.length ∧ 0 ≤ F ∧ F ≤ 1000 := by
  obtain ⟨x, n, P, hw, rfl, rfl, h1⟩ := h
  have hb := hw.hb
  have hx := hw.hx
  have ht := hw.ht
  have h0 := hw.n0
  have hle := lead_le c q (apA c q (A.drop t) n (S.drop i))
  refine ⟨hw.hi, by omega, ?_, by omega, h1⟩
  rw [hb, List.length_append]
  rcases hx with hx | hx <;> omega
theorem Ws.rem {c q : Int} {A b : List Atm} {S : List St} {i t T k : Nat} {F : Int} (h : Ws c q A b S i t T F) (hi : i < S.length) (hs : S[i] = .rem k) : Ws c q A b S (i + 1) (t + k) T F := by
  obtain ⟨x, n, P, hw, h2, h3, h1⟩ := h
  exact ⟨x, n, P, hw.rem hi hs, h2, h3, h1⟩
theorem Ws.keep {c q : Int} {A b : List Atm} {S : List St} {i t T k : Nat} {F : Int} (h : Ws c q A b S i t T F) (hi : i < S.length) (hs : S[i] = .keep k) (hk : 1 ≤ k) (hA : ∀ y ∈ A, ¬ (y.c = c ∧ y.q = q)) :
    t + k ≤ A.length ∧ T + k ≤ b.length ∧ (∀ j, j < k → b[T + j]? = A[t + j]?) ∧ Ws c q A b S (i + 1) (t + k) (T + k) F := by
  obtain ⟨x, n, P, hw, h2, h3, h1⟩ := h
  obtain ⟨rfl, g1, g2, g3, g4, g5⟩ := hw.keep hi hs hk hA
  obtain rfl : P.length = T := h2
  exact ⟨g1, g3, g2, 0, n, _, g4, g5, h3, h1⟩
theorem Ws.ins {c q : Int} {A b : List Atm} {S : List St} {i t T : Nat} {F : Int} {tt : ByteArray} (h : Ws c q A b S i t T F) (hi : i < S.length) (hs : S[i] = .ins tt) (hok : ∀ s ∈ S, s.Ok) (hA : ∀ y ∈ A, ¬ (y.c = c ∧ y.q = q)) :
    ∃ M : Nat, T + M ≤ b.length ∧ F + (M : Int) ≤ 1000 ∧ (∀ d, d < M → ∃ z, b[T + d]? = some ⟨c, q, F + (d : Int), z⟩) ∧ (∀ y, b[T + M]? = some y → ¬ (y.c = c ∧ y.q = q)) ∧ Ws c q A b S (i + 1) t (T + M) (F + (M : Int)) := by
  obtain ⟨x, n, P, hw, rfl, rfl, h1⟩ := h
  obtain ⟨m, g1, g2, g3, g4, g5, x', n', P', g6, g7, g8⟩ := hw.ins hi hs hok hA
  refine ⟨m - x, by omega, by omega, fun d hd => ?_, fun y hy => g5 y ?_, x', n', P', g6, by omega, by omega, by omega⟩
  · obtain ⟨z, hz⟩ := g4 (x + d) (by omega) (by omega)
    refine ⟨z, ?_⟩
    rw [show P.length + x + d = P.length + (x + d) by omega, hz, show n + ((x + d : Nat) : Int) = n + (x : Int) + (d : Int) by omega]
  · rw [show P.length + m = P.length + x + (m - x) by omega]; exact hy
end Go.Proofs.YtjimolafoihnpaaDoor

/-
  A region that draws its order, whose operations only read what lay there, and whose callees may make memory: one walk, in the order of the text. The class of worlds: all that lie behind a world.
-/
namespace Go.Proofs.YtjimolafoihnpaaDoor
open Go.ChangeShapes Go.WideShapes Go.ChangeAt Go.RowKit Go.PlainAid

end Go.Proofs.YtjimolafoihnpaaDoor

/-
  The reference's origin, Text, Len, Find.
-/
namespace Go.Proofs.YtjimolafoihnpaaDoor
open Go.ChangeShapes Go.WideShapes Go.ChangeAt Go.RowKit Go.PlainAid



theorem ret_in {a b : Int} (h : a = b) : Ending.returned (.int .i64 a) = .returned (.int .i64 b) := by rw [h]
set_option maxRecDepth 20000 in
set_option maxHeartbeats 800000 in
theorem rtext_any (v : Value) (l : List RunD) (w : World) (hr : RdN w v l) (hm : l.length ≤ 1125899906842624) (ht : (txB l).length ≤ 140737488355328) :
    Calls Tryd.prog 17 #[v] w fun e w' => e = .returned (.string (mk (txB l))) ∧ Below w.heap.size w w' := by
  obtain ⟨ao, cp, hv, -⟩ := id hr
  subst hv
  go_enter Tryd.func17, Tryd.ntmps17
  go_wp2_with fail
  go_loopw [3, 4] (fun s i wr => ∃ (k : Nat), k ≤ l.length ∧ i = .int .i64 (k : Int) ∧ s = .string (mk (txB (l.take k))) ∧ Below w.heap.size w wr) (fun _ i _ => l.length - (Go.RowKit.intOf i).toNat)
  case atStart => exact ⟨0, Nat.zero_le _, rfl, rfl, Below.refl _ _⟩
  case round =>
    obtain ⟨k, hk, rfl, rfl, hBr⟩ := hrel
    by_cases hlt : k < l.length
    · have hlt' : (k : Int) < (l.length : Int) := by omega
      obtain ⟨bb, off, e1, -, e2, e3, e4, e5⟩ := (hr.below hBr).at k l[k] (by simp [hlt])
      have htk : mk (txB (l.take (k + 1))) = mk (txB (l.take k)) ++ l[k].t := by rw [txB_take hlt, ← mk_app]; rfl
      have hle := txB_le l (k + 1)
      rw [txB_take hlt, List.length_append] at hle
      have hsz : (mk (txB (l.take k))).size + l[k].t.size ≤ 140737488355328 := by rw [mk_size]; simp at hle; omega
      have HT : Hid (mk (txB (l.take (k + 1))) = mk (txB (l.take k)) ++ l[k].t) := htk
      clear htk hle
      generalize mk (txB (l.take k)) = T at *
      generalize l[k] = r at *
      subst e1
      clear hr
      go_wp2_with fail
      exact ⟨⟨k + 1, by omega, by go_num, by rw [HT.out], hBr⟩, by simp [Go.RowKit.intOf]; omega⟩
    · obtain rfl : k = l.length := by omega
      rw [List.take_length]
      clear hr
      go_wp2_with fail
      go_ret
      exact ⟨rfl, hBr⟩


/-- The place of an atom among others. -/
def fdA (x : Atm) : List Atm → Nat → Int
  | [], _ => -1
  | y :: l, i => if y.same x = true then (i : Int) else fdA x l (i + 1)
theorem fdA_drop (x : Atm) {l : List Atm} {i : Nat} {y : Atm} (h : l[i]? = some y) : fdA x (l.drop i) i = if y.same x = true then (i : Int) else fdA x (l.drop (i + 1)) (i + 1) := by
  have hi : i < l.length := by
    rcases Nat.lt_or_ge i l.length with g | g
    · exact g
    · rw [List.getElem?_eq_none g] at h; cases h
  rw [List.getElem?_eq_getElem hi] at h
  injection h with h
  rw [List.drop_eq_getElem_cons hi, fdA, h]
theorem rda_at {W : World} {ao : Option Addr} {N cp : Nat} {l : List Atm} (h : RdA W (.slice ao N cp) l) {i : Nat} {x : Atm} (hx : l[i]? = some x) : ∃ b off, ao = some ⟨b, off, none⟩ ∧ b < W.heap.size ∧
    W.cell? ⟨b, off + i * 4, none⟩ = some (.int .i64 x.c) ∧ W.cell? ⟨b, off + i * 4 + 1, none⟩ = some (.int .i64 x.q) ∧ W.cell? ⟨b, off + i * 4 + 2, none⟩ = some (.int .i64 x.n) ∧ W.cell? ⟨b, off + i * 4 + 3, none⟩ = some (.int .i64 x.z) := by
  obtain ⟨a, c, e, -, h⟩ := h
  injection e with e1 _ _
  subst e1
  exact h i x hx
set_option maxRecDepth 20000 in
set_option maxHeartbeats 1000000 in
theorem rfind_any (v : Value) (l : List Atm) (x : Atm) (w : World) (hr : RdA w v l) (hm : l.length ≤ 100000) :
    Calls Tryd.prog 35 #[v, .agg #[.int .i64 x.c, .int .i64 x.q, .int .i64 x.n, .int .i64 x.z]] w fun e w' => e = .returned (.int .i64 (fdA x l 0)) ∧ Below w.heap.size w w' := by
  obtain ⟨ao, cp, hv, -⟩ := id hr
  subst hv
  have hB0 : Below w.heap.size w (w.alloc (.cells #[.int .i64 x.c, .int .i64 x.q, .int .i64 x.n, .int .i64 x.z] 80)) := (Below.refl _ w).alloc (Nat.le_refl _) _
  have hX : (w.alloc (.cells #[.int .i64 x.c, .int .i64 x.q, .int .i64 x.n, .int .i64 x.z] 80)).heap[w.heap.size]? = some (.cells #[.int .i64 x.c, .int .i64 x.q, .int .i64 x.n, .int .i64 x.z] 80) := heap_alloc_new w _
  replace hr := hr.below hB0
  go_enter Tryd.func35, Tryd.ntmps35
  go_wp2_with fail
  generalize w.alloc _ = w0 at *
  go_loopw [5] (fun i wr => ∃ (k : Nat), k ≤ l.length ∧ i = .int .i64 (k : Int) ∧ fdA x l 0 = fdA x (l.drop k) k ∧ Below w0.heap.size w0 wr) (fun i _ => l.length - (Go.RowKit.intOf i).toNat)
  case atStart => exact ⟨0, Nat.zero_le _, rfl, rfl, Below.refl _ _⟩
  case round =>
    obtain ⟨k, hk, rfl, hf, hBr⟩ := hrel
    by_cases hlt : k < l.length
    · have hlt' : (k : Int) < (l.length : Int) := by omega
      obtain ⟨y, hy⟩ : ∃ y, l[k]? = some y := ⟨l[k], by simp [hlt]⟩
      obtain ⟨ba, oa, rfl, -⟩ := rda_at (hr.below hBr) hy
      have xx := fun s : Beh wr => rda_at ((hr.below hBr).below s.h) hy
      have x0 : ∀ s : Beh wr, s.it.cell? ⟨ba, oa + k * 4, none⟩ = some (.int .i64 y.c) := fun s => by obtain ⟨_, _, e, -, g, -⟩ := xx s; cases e; exact g
      have x1 : ∀ s : Beh wr, s.it.cell? ⟨ba, oa + k * 4 + 1, none⟩ = some (.int .i64 y.q) := fun s => by obtain ⟨_, _, e, -, -, g, -⟩ := xx s; cases e; exact g
      have x2 : ∀ s : Beh wr, s.it.cell? ⟨ba, oa + k * 4 + 2, none⟩ = some (.int .i64 y.n) := fun s => by obtain ⟨_, _, e, -, -, -, g, -⟩ := xx s; cases e; exact g
      have x3 : ∀ s : Beh wr, s.it.cell? ⟨ba, oa + k * 4 + 3, none⟩ = some (.int .i64 y.z) := fun s => by obtain ⟨_, _, e, -, -, -, -, g⟩ := xx s; cases e; exact g
      have hXs := fun s : Beh wr => ((s.h.block w.heap.size (heap_lt ((hBr.block w.heap.size (heap_lt hX)).trans hX))).trans ((hBr.block w.heap.size (heap_lt hX)).trans hX))
      have z0 : ∀ s : Beh wr, s.it.cell? ⟨w.heap.size, 0, none⟩ = some (.int .i64 x.c) := fun s => cell_of_row _ _ 0 _ _ (0, 0) (hXs s)
      have z1 : ∀ s : Beh wr, s.it.cell? ⟨w.heap.size, 1, none⟩ = some (.int .i64 x.q) := fun s => cell_of_row _ _ 1 _ _ (0, 0) (hXs s)
      have z2 : ∀ s : Beh wr, s.it.cell? ⟨w.heap.size, 2, none⟩ = some (.int .i64 x.n) := fun s => cell_of_row _ _ 2 _ _ (0, 0) (hXs s)
      have z3 : ∀ s : Beh wr, s.it.cell? ⟨w.heap.size, 3, none⟩ = some (.int .i64 x.z) := fun s => cell_of_row _ _ 3 _ _ (0, 0) (hXs s)
      have cI := fun W => is_any y x W
      rw [fdA_drop x hy] at hf
      clear hy hr xx hXs
      cases hs : y.same x
      · simp only [hs] at cI
        have HF : Hid (fdA x l 0 = fdA x (l.drop (k + 1)) (k + 1)) := by show _ = _; rw [hs] at hf; simpa using hf
        clear hf hs
        go_wp2_with fail
        refine wp_region_beh (by kernel_rfl) (by kernel_rfl) ?_
        repeat (go_big_quiet_step ((go_at_call 58; exact Beh.call (cI _))))
        refine wpQuiet_nil ?_
        intro wq hw'
        have hwq := Beh.out hw'
        clear hw'
        clear x0 x1 x2 x3 z0 z1 z2 z3 cI
        go_wp2_with fail
        exact ⟨⟨k + 1, by omega, by go_num, HF.out, chain hBr hwq⟩, by simp [Go.RowKit.intOf]; omega⟩
      · simp only [hs] at cI
        have HF : Hid (fdA x l 0 = (k : Int)) := by show _ = _; rw [hs] at hf; simpa using hf
        clear hf hs
        go_wp2_with fail
        refine wp_region_beh (by kernel_rfl) (by kernel_rfl) ?_
        repeat (go_big_quiet_step ((go_at_call 58; exact Beh.call (cI _))))
        refine wpQuiet_nil ?_
        intro wq hw'
        have hwq := Beh.out hw'
        clear hw'
        clear x0 x1 x2 x3 z0 z1 z2 z3 cI
        go_wp2_with fail
        go_ret
        exact ⟨ret_in HF.out.symm, chain hB0 (chain hBr hwq)⟩
    · obtain rfl : k = l.length := by omega
      have HF : Hid (fdA x l 0 = -1) := by show _ = _; rw [hf, List.drop_length]; rfl
      clear hr hX hf
      go_wp2_with fail
      go_ret
      exact ⟨ret_in HF.out.symm, chain hB0 hBr⟩
end Go.Proofs.YtjimolafoihnpaaDoor

/-
  What the reference's Check looks at, run by run and atom by atom. No walk.
-/
namespace Go.Proofs.YtjimolafoihnpaaDoor
open Go.ChangeShapes Go.WideShapes Go.ChangeAt Go.RowKit Go.PlainAid

theorem same_iff {x y : Atm} : x.same y = true ↔ x.key = y.key := by simp [Atm.same]
theorem fdA_nodup : ∀ (l : List Atm) (n j : Nat) (x : Atm), l[j]? = some x → (l.map Atm.key).Nodup → fdA x l n = ((n + j : Nat) : Int)
  | [], n, j, x, h, _ => by simp at h
  | y :: l, n, 0, x, h, _ => by
    simp at h
    subst h
    rw [fdA, if_pos (same_iff.2 rfl)]
    rfl
  | y :: l, n, j + 1, x, h, hd => by
    have h' : l[j]? = some x := by simpa using h
    rw [List.map_cons, List.nodup_cons] at hd
    have hne : ¬ y.same x = true := fun e => hd.1 (by rw [same_iff.1 e]; exact List.mem_map_of_mem (List.mem_of_getElem? h'))
    rw [fdA, if_neg hne, fdA_nodup l (n + 1) j x h' hd.2]
    congr 1
    omega
theorem nodup_fdA : ∀ (l : List Atm) (n : Nat), (∀ (j : Nat) (x : Atm), l[j]? = some x → fdA x l n = ((n + j : Nat) : Int)) → (l.map Atm.key).Nodup
  | [], _, _ => by simp
  | y :: l, n, h => by
    have hne : ∀ (j : Nat) (x : Atm), l[j]? = some x → ¬ y.same x = true := fun j x hx e => by
      have := h (j + 1) x (by simpa using hx)
      rw [fdA, if_pos e] at this
      omega
    rw [List.map_cons, List.nodup_cons]
    refine ⟨fun hm => ?_, nodup_fdA l (n + 1) fun j x hx => ?_⟩
    · obtain ⟨x, hx, e⟩ := List.mem_map.1 hm
      obtain ⟨j, hj⟩ := List.getElem?_of_mem hx
      exact hne j x hj (same_iff.2 e.symm)
    · have := h (j + 1) x (by simpa using hx)
      rw [fdA, if_neg (hne j x hx)] at this
      rw [this]
      congr 1
      omega

/-- What has been looked at up to the run `k`, and may be. -/
structure Ck (l : List RunD) (k : Nat) : Prop where
  may : ∀ i r, i < k → l[i]? = some r → mayR r = true
  len : num (l.take k) ≤ 1000
  adj : ∀ i a r, i + 1 < k → l[i]? = some a → l[i + 1]? = some r → nxR a r = false
theorem num_take {l : List RunD} {k : Nat} (h : k < l.length) : num (l.take (k + 1)) = num (l.take k) + (cpl l[k].t).toNat := by
  unfold num
  rw [List.take_succ_eq_append_getElem h]
  unfold kysL
  rw [List.flatMap_append, List.length_append]
  simp [kys_len, RunD.k]
theorem ck_start (l : List RunD) : Ck l 0 := ⟨fun i r h => by omega, by simp [num, kysL], fun i a r h => by omega⟩
theorem ck_step {l : List RunD} {k : Nat} (h : Ck l k) (hk : k < l.length) (h1 : mayR l[k] = true) (h2 : (num (l.take k) : Int) + cpl l[k].t ≤ 1000) (h3 : ∀ a, 0 < k → l[k - 1]? = some a → nxR a l[k] = false) : Ck l (k + 1) := by
  have hp := (mayR_iff.1 h1).2.1
  refine ⟨fun i r hi hr => ?_, by rw [num_take hk]; omega, fun i a r hi ha hr => ?_⟩
  · by_cases e : i < k
    · exact h.may i r e hr
    · obtain rfl : i = k := by omega
      rw [List.getElem?_eq_getElem hk] at hr
      injection hr with hr
      rw [← hr]
      exact h1
  · by_cases e : i + 1 < k
    · exact h.adj i a r e ha hr
    · obtain rfl : k = i + 1 := by omega
      rw [List.getElem?_eq_getElem hk] at hr
      injection hr with hr
      rw [← hr]
      exact h3 a (by omega) (by simpa using ha)
theorem can_at : ∀ {l : List RunD}, Can l → ∀ (i : Nat) (a r : RunD), l[i]? = some a → l[i + 1]? = some r → nxR a r = false
  | [], _, i, a, r, h, _ => by simp at h
  | [b], _, i, a, r, _, h => by simp at h
  | b :: d :: l, hc, 0, a, r, h1, h2 => by
    simp at h1 h2
    subst h1
    subst h2
    exact hc.2.1
  | b :: d :: l, hc, i + 1, a, r, h1, h2 => can_at (l := d :: l) hc.2.2 i a r (by simpa using h1) (by simpa using h2)
theorem can_from : ∀ {l : List RunD}, (∀ r ∈ l, r.Ok) → (∀ (i : Nat) (a r : RunD), l[i]? = some a → l[i + 1]? = some r → nxR a r = false) → Can l
  | [], _, _ => trivial
  | [b], h, _ => h b (by simp)
  | b :: d :: l, h, ha => ⟨h b (by simp), ha 0 b d (by simp) (by simp), can_from (l := d :: l) (fun r hr => h r (by simp [hr])) (fun i a r h1 h2 => ha (i + 1) a r (by simpa using h1) (by simpa using h2))⟩
theorem num_le (l : List RunD) (k : Nat) : num (l.take k) ≤ num l := by
  have : num l = num (l.take k) + num (l.drop k) := by
    unfold num kysL
    rw [← List.length_append, ← List.flatMap_append, List.take_append_drop]
  omega
theorem ck_good {l : List RunD} (h : Good l) (k : Nat) : Ck l k :=
  ⟨fun _ r _ hr => h.may r (List.mem_of_getElem? hr), Nat.le_trans (num_le l k) h.len, fun i a r _ h1 h2 => can_at h.can i a r h1 h2⟩
theorem ck_end {l : List RunD} (h : Ck l l.length) : (∀ r ∈ l, mayR r = true) ∧ Can l ∧ num l ≤ 1000 := by
  have hm : ∀ r ∈ l, mayR r = true := fun r hr => by
    obtain ⟨i, hi⟩ := List.getElem?_of_mem hr
    have hl : i < l.length := by
      rcases Nat.lt_or_ge i l.length with g | g
      · exact g
      · rw [List.getElem?_eq_none g] at hi; cases hi
    exact h.may i r hl hi
  refine ⟨hm, can_from (fun r hr => (may_fit (hm r hr)).ok) (fun i a r h1 h2 => ?_), by have := h.len; rwa [List.take_length] at this⟩
  have hl : i + 1 < l.length := by
    rcases Nat.lt_or_ge (i + 1) l.length with g | g
    · exact g
    · rw [List.getElem?_eq_none g] at h2; cases h2
  exact h.adj i a r hl h1 h2
theorem good_from {l : List RunD} (h : Ck l l.length) (hd : ((ats l).map Atm.key).Nodup) : Good l := by
  obtain ⟨h1, h2, h3⟩ := ck_end h
  have ho : ∀ r ∈ l, r.Ok := fun r hr => (may_fit (h1 r hr)).ok
  refine good_ats.2 ⟨h2, fun x hx => ?_, hd, by rw [← num_ats ho]; exact h3⟩
  obtain ⟨L, hL, hx⟩ := List.mem_flatten.1 (show x ∈ (l.map RunD.ats).flatten from hx)
  obtain ⟨r, hr, rfl⟩ := List.mem_map.1 hL
  exact (may_ats (ho r hr)).1 (h1 r hr) x hx
theorem ck_bad {l : List RunD} {k : Nat} (h : ¬ Ck l k) : ckR l = 120 := by
  have : ¬ ckR l = 0 := fun e => h (ck_good (ckR_zero.1 e) k)
  rw [ckR] at this ⊢
  split
  · simp_all
  · rfl
theorem nd_bad {l : List RunD} (h : ¬ ((ats l).map Atm.key).Nodup) : ckR l = 120 := by
  have : ¬ ckR l = 0 := fun e => h (good_ats.1 (ckR_zero.1 e)).2.2.1
  rw [ckR] at this ⊢
  split
  · simp_all
  · rfl
end Go.Proofs.YtjimolafoihnpaaDoor
