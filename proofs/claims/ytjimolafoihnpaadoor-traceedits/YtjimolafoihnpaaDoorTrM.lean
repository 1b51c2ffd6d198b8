/-
  The reference's sound and agree (layer 24).
-/
import Derived.Test.YtjimolafoihnpaaDoorTrL
import Derived.Test.YtjimolafoihnpaaDoorTrH
import Derived.Test.YtjimolafoihnpaaDoorTrF
import Derived.Test.YtjimolafoihnpaaDoorBeh
namespace Go.Proofs.YtjimolafoihnpaaDoor.tc
open Go.Maps Go.ChangeShapes Go.WideShapes Go.ChangeAt Go.RowKit Go.PlainAid

theorem same_key (x y : Atm) : x.same y = decide (x.key = y.key) := rfl
/-- The first place of an atom's name. -/
theorem fdA_spec (x : Atm) : ∀ (l : List Atm) (i : Nat), (fdA x l i = -1 ∧ ∀ y ∈ l, y.key ≠ x.key) ∨ ∃ k y, fdA x l i = ((i + k : Nat) : Int) ∧ l[k]? = some y ∧ y.key = x.key ∧ ∀ j z, j < k → l[j]? = some z → z.key ≠ x.key
  | [], i => .inl ⟨rfl, by simp⟩
  | y :: l, i => by
    simp only [fdA]
    by_cases h : y.key = x.key
    · have hs : y.same x = true := by rw [same_key]; exact decide_eq_true h
      rw [if_pos hs]
      exact .inr ⟨0, y, by simp, by simp, h, fun j z hj => by omega⟩
    · have hs : ¬ y.same x = true := by rw [same_key]; simpa using h
      rw [if_neg hs]
      rcases fdA_spec x l (i + 1) with ⟨a, b⟩ | ⟨k, z, a, b, c, d⟩
      · exact .inl ⟨a, fun w hw => by rcases List.mem_cons.1 hw with rfl | hw; exact h; exact b w hw⟩
      · refine .inr ⟨k + 1, z, by rw [a]; congr 1; omega, by simpa using b, c, fun j w hj hw => ?_⟩
        cases j with
        | zero => simp at hw; subst hw; exact h
        | succ j => exact d j w (by omega) (by simpa using hw)
/-- The same, by the names' places. -/
theorem fd_dA {N : List AtK} (x : Atm) (hx : x.key ∈ N) : ∀ (l : List Atm) (i : Nat), (∀ y ∈ l, y.key ∈ N) → (fd (dA N l) (N.idxOf x.key) = none ∧ fdA x l i = -1) ∨ ∃ k y, fd (dA N l) (N.idxOf x.key) = some (k, y.z) ∧ fdA x l i = ((i + k : Nat) : Int) ∧ l[k]? = some y
  | [], i, _ => .inl ⟨rfl, rfl⟩
  | y :: l, i, hl => by
    have e : dA N (y :: l) = (N.idxOf y.key, y.z) :: dA N l := rfl
    rw [e]
    simp only [fd, fdA]
    have hy := hl y (by simp)
    by_cases h : y.key = x.key
    · have hs : y.same x = true := by rw [same_key]; exact decide_eq_true h
      rw [if_pos hs, if_pos (by rw [h])]
      exact .inr ⟨0, y, rfl, by simp, by simp⟩
    · have hs : ¬ y.same x = true := by rw [same_key]; simpa using h
      have hne : ¬ N.idxOf y.key = N.idxOf x.key := fun q => h (by
        have h1 := List.getElem_idxOf (List.idxOf_lt_length_of_mem hy)
        have h2 := List.getElem_idxOf (List.idxOf_lt_length_of_mem hx)
        rw [← h1, ← h2]
        congr 1)
      rw [if_neg hs, if_neg hne]
      rcases fd_dA x hx l (i + 1) (fun z hz => hl z (by simp [hz])) with ⟨a, b⟩ | ⟨k, z, a, b, c⟩
      · exact .inl ⟨by rw [a]; rfl, b⟩
      · exact .inr ⟨k + 1, z, by rw [a]; rfl, by rw [b]; congr 1; omega, by simpa using c⟩
theorem fst_dA (N : List AtK) (l : List Atm) : (dA N l).map Prod.fst = (l.map Atm.key).map N.idxOf := by simp [dA]
theorem snd_key {N : List AtK} {l : List Atm} (hl : ∀ y ∈ l, y.key ∈ N) : sndD (dA N l) = decide ((l.map Atm.key).Nodup) := by
  unfold sndD
  rw [fst_dA]
  congr 1
  apply propext
  constructor
  · intro h
    rw [List.nodup_iff_pairwise_ne, List.pairwise_map] at h
    rw [List.nodup_iff_pairwise_ne]
    exact h.imp (fun hab e => hab (by rw [e]))
  · intro h
    rw [List.nodup_iff_pairwise_ne, List.pairwise_map]
    refine h.imp_of_mem ?_
    intro a b ha hb hab q
    apply hab
    obtain ⟨x, hx, rfl⟩ := List.mem_map.1 ha
    obtain ⟨y, hy, rfl⟩ := List.mem_map.1 hb
    have h1 := List.getElem_idxOf (List.idxOf_lt_length_of_mem (hl x hx))
    have h2 := List.getElem_idxOf (List.idxOf_lt_length_of_mem (hl y hy))
    rw [← h1, ← h2]
    congr 1
theorem nodup_fdA {l : List Atm} (h : ∀ (i : Nat) (x : Atm), l[i]? = some x → fdA x l 0 = (i : Int)) : (l.map Atm.key).Nodup := by
  rw [List.nodup_iff_pairwise_ne, List.pairwise_map, List.pairwise_iff_getElem]
  intro i j hi hj hij hk
  have h1 := h i l[i] (by simp [hi])
  have h2 := h j l[j] (by simp [hj])
  have e : ∀ (m : List Atm) (t : Nat), fdA l[i] m t = fdA l[j] m t := by
    intro m
    induction m with
    | nil => intro t; rfl
    | cons y m ih => intro t; rw [fdA, fdA, same_key, same_key, hk, ih]
  rw [e l 0, h2] at h1
  omega
theorem fdA_nodup {l : List Atm} (h : (l.map Atm.key).Nodup) {i : Nat} {x : Atm} (hx : l[i]? = some x) : fdA x l 0 = (i : Int) := by
  have hil := (List.getElem?_eq_some_iff.1 hx).1
  rcases fdA_spec x l 0 with ⟨-, b⟩ | ⟨k, y, a, b, c, d⟩
  · exact absurd rfl (b x (List.mem_of_getElem? hx))
  · have hkl := (List.getElem?_eq_some_iff.1 b).1
    by_cases hki : k = i
    · subst hki; simpa using a
    · exfalso
      rw [List.nodup_iff_pairwise_ne, List.pairwise_map, List.pairwise_iff_getElem] at h
      rcases Nat.lt_or_ge k i with q | q
      · refine h k i hkl hil q ?_
        rw [(List.getElem?_eq_some_iff.1 b).2, (List.getElem?_eq_some_iff.1 hx).2]
        exact c
      · exact d i x (by omega) hx rfl
theorem rda_ln {W : World} {v : Value} {l : List Atm} (h : Ln W 80 v l.length (acs l)) : RdA W v l := by
  obtain ⟨ao, cp, rfl, hc⟩ := h.form
  refine ⟨ao, cp, rfl, hc, fun i x hx => ?_⟩
  obtain ⟨f0, f1, f2, f3⟩ := acs_at l i x hx
  obtain ⟨g, off, cur, e, h1, h2⟩ := h.at f0
  exact ⟨g, off, e, lt_heap h1, h2 _ _ f0, by rw [Nat.add_assoc]; exact h2 _ _ f1, by rw [Nat.add_assoc]; exact h2 _ _ f2, by rw [Nat.add_assoc]; exact h2 _ _ f3⟩
theorem ret_bT {a b : Bool} (h : a = b) : Ending.returned (.bool a) = .returned (.bool b) := by rw [h]
set_option maxRecDepth 20000 in
set_option maxHeartbeats 1000000 in
theorem rsound_any (v : Value) (l : List Atm) (w : World) (hr : RdA w v l) (hm : l.length ≤ 1048576) :
    Calls Tryd.prog 32 #[v] w fun e w' => e = .returned (.bool (decide ((l.map Atm.key).Nodup))) ∧ Below w.heap.size w w' := by
  obtain ⟨ao, cp, rfl, -⟩ := id hr
  obtain ⟨T, HT⟩ : ∃ T, Hid (decide ((l.map Atm.key).Nodup) = T) := ⟨_, rfl⟩
  rw [HT.out]
  go_enter Tryd.func32, Tryd.ntmps32
  go_wp2_with fail
  go_loopw [3] (fun i wr => ∃ k : Nat, k ≤ l.length ∧ i = .int .i64 (k : Int) ∧ Hid (∀ (j : Nat) (x : Atm), j < k → l[j]? = some x → fdA x l 0 = (j : Int)) ∧ Below w.heap.size w wr) (fun i _ => l.length - (Go.RowKit.intOf i).toNat)
  case atStart => exact ⟨0, Nat.zero_le _, rfl, fun j x h => by omega, Below.refl _ _⟩
  case round =>
    obtain ⟨k, hk, rfl, HF, hb⟩ := hrel
    by_cases hlt : k < l.length
    · have hlt' : (k : Int) < (l.length : Int) := by omega
      have hx : l[k]? = some l[k] := by simp [hlt]
      obtain ⟨ba, oa, rfl, hba, c0, c1, c2, c3⟩ := rda_at hr hx
      have q := fun o => hb.cell (p := ⟨ba, o, none⟩) hba
      rw [← q] at c0 c1 c2 c3
      have cF := rfind_any _ l l[k] wr (hr.below hb) (by omega)
      have HY : Hid (fdA l[k] l 0 = (k : Int) → ∀ (j : Nat) (x : Atm), j < k + 1 → l[j]? = some x → fdA x l 0 = (j : Int)) := fun he j x hj hxj => by
        by_cases hjk : j = k
        · subst hjk
          rw [hx] at hxj
          cases hxj
          exact he
        · exact HF.out j x (by omega) hxj
      have HN : Hid (fdA l[k] l 0 ≠ (k : Int) → T = false) := fun hne => by
        rw [← HT.out]
        exact decide_eq_false (fun hd => hne (fdA_nodup hd hx))
      clear q hx HF HT
      generalize l[k] = x at *
      generalize fdA x l 0 = z at *
      by_cases hz : z = (k : Int)
      · have HY2 := HY.out hz
        have HY3 : Hid (∀ (j : Nat) (x : Atm), j < k + 1 → l[j]? = some x → fdA x l 0 = (j : Int)) := HY2
        subst hz
        clear HY HY2 HN
        go_wp2_with fail
        refine cF.mono ?_
        rintro e w2 ⟨rfl, hb2⟩
        clear cF c0 c1 c2 c3
        go_wp2_with fail
        exact ⟨⟨k + 1, by omega, by go_num, HY3, chain hb hb2⟩, by simp [Go.RowKit.intOf]; omega⟩
      · have HX : Hid (T = false) := HN.out hz
        have hz1 : (z == (k : Int)) = false := beq_eq_false_iff_ne.2 hz
        clear HY HN
        go_wp2_with fail
        refine cF.mono ?_
        rintro e w2 ⟨rfl, hb2⟩
        clear cF c0 c1 c2 c3
        go_wp2_with fail
        go_ret
        exact ⟨ret_bT HX.out.symm, chain hb hb2⟩
    · obtain rfl : k = l.length := by omega
      have HX : Hid (T = true) := by
        show _ = _
        rw [← HT.out]
        exact decide_eq_true (nodup_fdA fun i x hx => HF.out i x (List.getElem?_eq_some_iff.1 hx).1 hx)
      clear HF HT
      go_wp2_with fail
      go_ret
      exact ⟨ret_bT HX.out.symm, hb⟩
end Go.Proofs.YtjimolafoihnpaaDoor.tc

/-
  The program's points: the code point of each name.
-/
namespace Go.Proofs.YtjimolafoihnpaaDoor.tc
open Go.Maps Go.ChangeShapes Go.WideShapes Go.ChangeAt Go.RowKit Go.PlainAid

/-- An atom more: none: its name has another code point already. -/
def ptS (s : Option (List Int)) (x : Nat × Int) : Option (List Int) := s.bind fun l => if 0 ≤ l.getD x.1 (-1) ∧ l.getD x.1 (-1) ≠ x.2 then none else some (l.set x.1 x.2)
def ptF (n : Nat) (l : List (Nat × Int)) : Option (List Int) := l.foldl ptS (some (List.replicate n (-1)))
theorem ptF_one (n : Nat) (l : List (Nat × Int)) (x : Nat × Int) : ptF n (l ++ [x]) = ptS (ptF n l) x := by simp [ptF]
theorem ptF_part {n : Nat} {a : List (Nat × Int)} (h : ptF n a = none) (b : List (Nat × Int)) : ptF n (a ++ b) = none := by
  unfold ptF at *
  rw [List.foldl_append, h]
  induction b with
  | nil => rfl
  | cons x b ih => rw [List.foldl_cons]; exact ih
theorem flat_take1 {D : List (List (Nat × Int))} {k : Nat} (h : k < D.length) : (D.take (k + 1)).flatten = (D.take k).flatten ++ D[k] := by
  rw [List.take_succ_eq_append_getElem h]
  simp only [List.flatten_append, List.flatten_cons, List.flatten_nil, List.append_nil]
theorem flat_cut {D : List (List (Nat × Int))} {k e : Nat} (h : k < D.length) (he : e < D[k].length) : ∃ r, D.flatten = ((D.take k).flatten ++ D[k].take e) ++ D[k][e] :: r := by
  refine ⟨D[k].drop (e + 1) ++ (D.drop (k + 1)).flatten, ?_⟩
  have e0 : D.flatten = (D.take k).flatten ++ (D[k] ++ (D.drop (k + 1)).flatten) := by
    conv => lhs; rw [← List.take_append_drop k D, List.drop_eq_getElem_cons h, List.flatten_append, List.flatten_cons]
  have e2 : D[k] ++ (D.drop (k + 1)).flatten = D[k].take e ++ (D[k][e] :: (D[k].drop (e + 1) ++ (D.drop (k + 1)).flatten)) := by
    conv => lhs; rw [← List.take_append_drop e D[k]]
    rw [List.drop_eq_getElem_cons he, List.append_assoc]
    rfl
  rw [e0, e2, List.append_assoc]
set_option maxRecDepth 20000 in
set_option maxHeartbeats 2000000 in
theorem points24_any (b : Nat) (D : List (List (Nat × Int))) (N : List AtK) (w : World) (hr : BkR w b D N) (hD : D.length ≤ 1048576) (hN : N.length ≤ 1048576) (hrow : ∀ r ∈ D, r.length ≤ 1048576 ∧ ∀ x ∈ r, x.1 < N.length) :
    Calls Tryd.prog 28 #[.pointer (some ⟨b, 0, none⟩)] w fun e w' => ∃ v, e = .returned (.tuple #[v, .bool (ptF N.length D.flatten).isSome]) ∧ (∀ l, ptF N.length D.flatten = some l → l.length = N.length ∧ w'.ownsRow w.heap.size 3 1 v N.length (iv l)) ∧ Below w.heap.size w w' := by
  obtain ⟨Y, Y1, Y2, hmk2⟩ := make_any (t := 68) Tryd.underlying68 infoInt rfl (by decide) (by decide) N.length (by omega)
  rw [rep_one _ _ rfl] at Y1
  have o1 := own_made (e := 3) (W := w) (B := w.heap.size) Y1 Y2 (by omega) (Nat.le_refl _)
  have b1 := alloc_b w (.cells Y 3)
  obtain ⟨dv, nv, hbx, htb, hln⟩ := hr
  obtain ⟨ad, cd, rfl, hcd⟩ := htb.form
  obtain ⟨an, cn, rfl, hcn⟩ := hln.form
  obtain ⟨x0, x1, -, -⟩ := hbx.cells
  have hbx1 := hbx.below b1
  have htb1 := htb.below b1
  obtain ⟨p, hp⟩ : ∃ p, Hid (p = w.heap.size) := ⟨_, rfl⟩
  have hpl : Hid (w.heap.size ≤ p) := by show _ ≤ _; rw [hp.out]; exact Nat.le_refl _
  have o1' : (w.alloc (.cells Y 3)).ownsRow w.heap.size 3 1 (.slice (some ⟨p, 0, none⟩) N.length N.length) N.length (iv (List.replicate N.length 0)) := by
    have e : iv (List.replicate N.length 0) = List.replicate N.length (.int .i64 0) := by simp [iv]
    rw [e, hp.out]
    exact o1
  clear o1 Y1 Y2 hln htb hbx
  obtain ⟨T, HT⟩ : ∃ T, Hid (ptF N.length D.flatten = T) := ⟨_, rfl⟩
  rw [HT.out]
  go_enter Tryd.func28, Tryd.ntmps28
  go_wp2_with fail
  clear x0 x1 hmk2
  rw [← hp.out]
  generalize w.alloc (.cells Y 3) = w1 at *
  go_loopw [18] (fun iv' wr => ∃ k : Nat, k ≤ N.length ∧ iv' = .int .i64 (k : Int) ∧ wr.ownsRow w.heap.size 3 1 (.slice (some ⟨p, 0, none⟩) N.length N.length) N.length (iv (List.replicate k (-1) ++ List.replicate (N.length - k) 0)) ∧ BB wr b (.slice ad D.length cd) (.slice an N.length cn) ∧ Tb wr 114 cA 112 (.slice ad D.length cd) D ∧ Below w.heap.size w wr) (fun iv' _ => N.length - (Go.RowKit.intOf iv').toNat)
  case atStart => exact ⟨0, by omega, rfl, by simpa using o1', hbx1, htb1, b1⟩
  case round =>
    obtain ⟨k, hk, rfl, ho, hbx, htb, hb⟩ := hrel
    clear o1' hbx1 htb1 b1
    by_cases hlt : k < N.length
    · have hlt' : (k : Int) < (N.length : Int) := by omega
      have HV : Hid ((iv (List.replicate k (-1) ++ List.replicate (N.length - k) 0)).set k (.int .i64 (-1)) = iv (List.replicate (k + 1) (-1) ++ List.replicate (N.length - (k + 1)) 0)) := by
        show _ = _
        rw [show N.length - k = (N.length - (k + 1)) + 1 by omega, List.replicate_succ (n := N.length - (k + 1))]
        rw [List.replicate_succ' (n := k)]
        simp [iv]
      have y0 := ho.cells (g := p) rfl k (.int .i64 0) (by
        rw [iv, List.getElem?_map, List.getElem?_append_right (by simp), List.length_replicate, Nat.sub_self, List.getElem?_replicate, if_pos (by omega)]
        rfl)
      rw [addr4, Nat.zero_add] at y0
      obtain ⟨cu, hcu⟩ := own_kind ho (g := p) rfl
      have y1 := frz hcu k
      have s0 := own_stored ho k (.int .i64 (-1))
      have s1 : ∀ t, 3 ≠ t → Sm t wr (wr.setCell ⟨p, k, none⟩ (.int .i64 (-1))) := fun t ht => own_set_sm ho ht k (.int .i64 (-1))
      have s2 := s1 _ (by decide) b _ hbx
      have s3 := htb.sm (s1 _ (by decide)) (s1 _ (by decide))
      have s4 := hb.setCell (p := ⟨p, k, none⟩) hpl.out (.int .i64 (-1))
      rw [HV.out] at s0
      clear hcu s1 ho hbx htb hb HV
      go_wp2_with fail
      exact ⟨⟨k + 1, by omega, by go_num, s0, s2, s3, s4⟩, by simp [Go.RowKit.intOf]; omega⟩
    · obtain rfl : k = N.length := by omega
      rw [Nat.sub_self, List.replicate_zero, List.append_nil] at ho
      obtain ⟨x0, x1, -, -⟩ := hbx.cells
      generalize wr = wa at *
      go_wp2_with fail
      clear x0 x1 hbx
      go_loopw [30] (fun iv' wr => ∃ k : Nat, k ≤ D.length ∧ iv' = .int .i64 (k : Int) ∧ (∃ l, Hid (ptF N.length (D.take k).flatten = some l) ∧ l.length = N.length ∧ wr.ownsRow w.heap.size 3 1 (.slice (some ⟨p, 0, none⟩) N.length N.length) N.length (iv l)) ∧ Tb wr 114 cA 112 (.slice ad D.length cd) D ∧ Below w.heap.size w wr) (fun iv' _ => D.length - (Go.RowKit.intOf iv').toNat)
      case atStart => exact ⟨0, by omega, rfl, ⟨List.replicate N.length (-1), rfl, by simp, ho⟩, htb, hb⟩
      case round =>
        obtain ⟨k, hk, rfl, ⟨l, HL, hll, ho2⟩, htb2, hb2⟩ := hrel
        clear ho htb hb
        by_cases hlt : k < D.length
        · have hlt' : (k : Int) < (D.length : Int) := by omega
          have hDk : D[k]? = some D[k] := by simp [hlt]
          obtain ⟨gd, od, rv, e1, hgd, c0, hlr⟩ := htb2.at hDk
          obtain ⟨hrl, hrn⟩ := hrow D[k] (List.getElem_mem hlt)
          obtain ⟨ar, kr, rfl, hkr⟩ := hlr.form
          have HCUT : Hid (∀ e (he : e < D[k].length), ∃ r, D.flatten = ((D.take k).flatten ++ D[k].take e) ++ D[k][e] :: r) := fun e he => flat_cut hlt he
          have HEND : Hid ((D.take (k + 1)).flatten = (D.take k).flatten ++ D[k].take D[k].length) := by show _ = _; rw [List.take_length, flat_take1 hlt]
          clear hDk hrow
          generalize D[k] = row at *
          subst e1
          generalize (D.take k).flatten = F0 at *
          go_wp2_with fail
          generalize wr = wc at *
          go_loopw [36] (fun iv' wr => ∃ e : Nat, e ≤ row.length ∧ iv' = .int .i64 (e : Int) ∧ (∃ l, Hid (ptF N.length (F0 ++ row.take e) = some l) ∧ l.length = N.length ∧ wr.ownsRow w.heap.size 3 1 (.slice (some ⟨p, 0, none⟩) N.length N.length) N.length (iv l)) ∧ Tb wr 114 cA 112 (.slice (some ⟨gd, od, none⟩) D.length cd) D ∧ Ln wr 114 (.slice ar row.length kr) row.length (row.map cA).flatten ∧ Below w.heap.size w wr) (fun iv' _ => row.length - (Go.RowKit.intOf iv').toNat)
          case atStart => exact ⟨0, by omega, rfl, ⟨l, by simpa using HL, hll, ho2⟩, htb2, hlr, hb2⟩
          case round =>
            obtain ⟨e, he, rfl, ⟨l3, HL3, hll3, ho3⟩, htb3, hlr3, hb3⟩ := hrel
            clear ho2 htb2 hlr hb2 HL hll
            by_cases hle : e < row.length
            · have hle' : (e : Int) < (row.length : Int) := by omega
              have hxe : row[e]? = some row[e] := by simp [hle]
              have hxn := hrn row[e] (List.getElem_mem hle)
              have f0 := flat_at cA 2 cA_len row e _ hxe 0 (by decide)
              have f1 := flat_at cA 2 cA_len row e _ hxe 1 (by decide)
              obtain ⟨ga, oa, cur, e1, hga, hcell⟩ := hlr3.at (j := e * 2 + 0) (u := .int .i64 (row[e].1 : Int)) f0
              have c0 : wr.cell? ⟨ga, oa + e * 2, none⟩ = some (.int .i64 (row[e].1 : Int)) := hcell _ _ f0
              have c1 : wr.cell? ⟨ga, oa + e * 2 + 1, none⟩ = some (.int .i64 row[e].2) := hcell _ _ f1
              obtain ⟨rest, hrest⟩ := HCUT.out e hle
              have HRO : Hid (ptF N.length (F0 ++ row.take (e + 1)) = ptS (some l3) row[e]) := by
                show _ = _
                rw [List.take_succ_eq_append_getElem hle, ← List.append_assoc, ptF_one, HL3.out]
              have HNO : Hid (ptF N.length (F0 ++ row.take (e + 1)) = none → T = none) := fun h => by
                rw [← HT.out, hrest, show (F0 ++ row.take e) ++ row[e] :: rest = (F0 ++ row.take (e + 1)) ++ rest by rw [List.take_succ_eq_append_getElem hle]; simp only [List.append_assoc, List.cons_append, List.nil_append]]
                exact ptF_part h rest
              subst e1
              clear f0 f1 hcell hga hxe cur hrest HL3
              generalize row[e] = x at *
              obtain ⟨z, hz⟩ : ∃ z, l3[x.1]? = some z := ⟨_, List.getElem?_eq_getElem (by omega)⟩
              have hgd2 : l3.getD x.1 (-1) = z := by rw [List.getD_eq_getElem?_getD, hz]; rfl
              have HS : Hid (ptS (some l3) x = if 0 ≤ z ∧ z ≠ x.2 then none else some (l3.set x.1 x.2)) := by
                show _ = _
                simp only [ptS, Option.bind_some, hgd2]
              have hal := alloc_b wr (.cells #[.int .i64 (x.1 : Int), .int .i64 x.2] 114)
              have hax : (wr.alloc (.cells #[.int .i64 (x.1 : Int), .int .i64 x.2] 114)).heap[wr.heap.size]? = some (.cells #[.int .i64 (x.1 : Int), .int .i64 x.2] 114) := heap_alloc_new _ _
              have ho4 := own_below ho3 hal
              have htb4 := htb3.below hal
              have hlr4 := hlr3.below hal
              have hb4 := chain hb3 hal
              have hxn' : (x.1 : Int) < (N.length : Int) := by omega
              clear hgd2 ho3 htb3 hlr3 hb3 hal
              go_upto_region 13 with fail
              clear c0 c1
              generalize wr.alloc _ = w4 at *
              generalize wr.heap.size = ba at *
              have y0 := ho4.cells (g := p) rfl x.1 (.int .i64 z) (iv_get hz)
              rw [addr4, Nat.zero_add] at y0
              have hp4 := (ho4.lt p rfl).2
              have a0 : ∀ s : Beh w4, s.it.cell? ⟨ba, 0, none⟩ = some (.int .i64 (x.1 : Int)) := fun s => (s.h.cell (p := ⟨ba, 0, none⟩) (lt_heap hax)).trans (cell_of_row w4 ba 0 _ _ (0, 0) hax)
              have a1 : ∀ s : Beh w4, s.it.cell? ⟨ba, 1, none⟩ = some (.int .i64 x.2) := fun s => (s.h.cell (p := ⟨ba, 1, none⟩) (lt_heap hax)).trans (cell_of_row w4 ba 1 _ _ (0, 0) hax)
              have y0s : ∀ s : Beh w4, s.it.cell? ⟨p, x.1, none⟩ = some (.int .i64 z) := fun s => (s.h.cell (p := ⟨p, x.1, none⟩) hp4).trans y0
              clear y0
              have HGO : Hid (∀ wq, Below w4.heap.size w4 wq → wq.cell? ⟨ba, 0, none⟩ = some (.int .i64 (x.1 : Int)) ∧ wq.cell? ⟨ba, 1, none⟩ = some (.int .i64 x.2) ∧ wq.cell? ⟨p, x.1, none⟩ = some (.int .i64 z) ∧ wq.frozen? ⟨p, x.1, none⟩ = false ∧ (wq.setCell ⟨p, x.1, none⟩ (.int .i64 x.2)).ownsRow w.heap.size 3 1 (.slice (some ⟨p, 0, none⟩) N.length N.length) N.length (iv (l3.set x.1 x.2)) ∧ Tb (wq.setCell ⟨p, x.1, none⟩ (.int .i64 x.2)) 114 cA 112 (.slice (some ⟨gd, od, none⟩) D.length cd) D ∧ Ln (wq.setCell ⟨p, x.1, none⟩ (.int .i64 x.2)) 114 (.slice (some ⟨ga, oa, none⟩) row.length kr) row.length (row.map cA).flatten ∧ Below w.heap.size w (wq.setCell ⟨p, x.1, none⟩ (.int .i64 x.2))) := fun wq hq => by
                have o5 := own_below ho4 hq
                obtain ⟨cu, hcu⟩ := own_kind o5 (g := p) rfl
                have s0 := own_stored o5 x.1 (.int .i64 x.2)
                rw [show (iv l3).set x.1 (.int .i64 x.2) = iv (l3.set x.1 x.2) by simp [iv, List.map_set]] at s0
                have s1 : ∀ t, 3 ≠ t → Sm t wq (wq.setCell ⟨p, x.1, none⟩ (.int .i64 x.2)) := fun t ht => own_set_sm o5 ht x.1 (.int .i64 x.2)
                exact ⟨a0 ⟨wq, hq⟩, a1 ⟨wq, hq⟩, y0s ⟨wq, hq⟩, frz hcu _, s0, (htb4.below hq).sm (s1 _ (by decide)) (s1 _ (by decide)), (hlr4.below hq).sm (s1 _ (by decide)), (chain hb4 hq).setCell (p := ⟨p, x.1, none⟩) hpl.out _⟩
              by_cases hz0 : 0 ≤ z
              · have hz1 : decide (0 ≤ z) = true := decide_eq_true hz0
                by_cases hzx : z = x.2
                · have z1 : (z == x.2) = true := beq_iff_eq.2 hzx
                  have z2 : (z != x.2) = false := by rw [bne, z1]; rfl
                  have HX : Hid (ptF N.length (F0 ++ row.take (e + 1)) = some (l3.set x.1 x.2)) := by show _ = _; rw [HRO.out, HS.out, if_neg (fun h => h.2 hzx)]
                  clear HRO HS HNO hzx
                  refine wp_region_beh (by kernel_rfl) (by kernel_rfl) ?_
                  repeat (go_big_quiet_step (fail))
                  refine wpQuiet_nil ?_
                  intro wq hw'
                  obtain ⟨k0, k1, k2, k3, k4, k5, k6, k7⟩ := HGO.out wq (Beh.out hw')
                  clear hw' a0 a1 y0s HGO
                  go_wp2_with fail
                  exact ⟨⟨e + 1, by omega, by go_num, ⟨_, HX, by simpa using hll3, k4⟩, k5, k6, k7⟩, by simp [Go.RowKit.intOf]; omega⟩
                · have z1 : (z == x.2) = false := beq_eq_false_iff_ne.2 hzx
                  have z2 : (z != x.2) = true := by rw [bne, z1]; rfl
                  have HX : Hid (T = none) := HNO.out (by rw [HRO.out, HS.out, if_pos ⟨hz0, hzx⟩])
                  clear HRO HS HNO hzx
                  refine wp_region_beh (by kernel_rfl) (by kernel_rfl) ?_
                  repeat (go_big_quiet_step (fail))
                  refine wpQuiet_nil ?_
                  intro wq hw'
                  have hbW := chain hb4 (Beh.out hw')
                  clear hw' a0 a1 y0s HGO
                  go_wp2_with fail
                  go_ret2
                  rw [HX.out]
                  exact ⟨_, rfl, (fun l h => by cases h), hbW⟩
              · have hz1 : decide (0 ≤ z) = false := decide_eq_false hz0
                have HX : Hid (ptF N.length (F0 ++ row.take (e + 1)) = some (l3.set x.1 x.2)) := by show _ = _; rw [HRO.out, HS.out, if_neg (fun h => hz0 h.1)]
                clear HRO HS HNO
                refine wp_region_beh (by kernel_rfl) (by kernel_rfl) ?_
                repeat (go_big_quiet_step (fail))
                refine wpQuiet_nil ?_
                intro wq hw'
                obtain ⟨k0, k1, k2, k3, k4, k5, k6, k7⟩ := HGO.out wq (Beh.out hw')
                clear hw' a0 a1 y0s HGO
                go_wp2_with fail
                exact ⟨⟨e + 1, by omega, by go_num, ⟨_, HX, by simpa using hll3, k4⟩, k5, k6, k7⟩, by simp [Go.RowKit.intOf]; omega⟩
            · obtain rfl : e = row.length := by omega
              go_wp2_with fail
              exact ⟨⟨k + 1, by omega, by go_num, ⟨l3, by rw [HEND.out]; exact HL3, hll3, ho3⟩, htb3, hb3⟩, by simp [Go.RowKit.intOf]; omega⟩
        · obtain rfl : k = D.length := by omega
          have HX : Hid (T = some l) := by
            have h := HL.out
            rw [List.take_length, HT.out] at h
            exact h
          clear HL
          go_wp2_with fail
          go_ret2
          rw [HX.out]
          exact ⟨_, rfl, (fun l' h => by cases h; exact ⟨hll, ho2⟩), hb2⟩
end Go.Proofs.YtjimolafoihnpaaDoor.tc
