/-
  The reference's sound and agree (layer 24).
-/
import Derived.Test.YtjimolafoihnpaaTrL
import Derived.Test.YtjimolafoihnpaaTrH
namespace Go.Proofs.Ytjimolafoihnpaa.tc
open Go.Maps Go.ChangeShapes Go.WideShapes Go.ChangeAt Go.RowKit Go.PlainAid

theorem same_key (x y : Atm) : x.same y = decide (x.key = y.key) := rfl
/-- The first place of an atom's name. -/
theorem fdA_spec (x : Atm) : ∀ (l : List Atm) (i : Nat), (fdA x l i = -1 ∧ ∀ y ∈ l, y.key ≠ x.key) ∨ ∃ k y, fdA x l i = ((i + k : Nat) : Int) ∧ l[k]? = some y ∧ y.key = x.key ∧ ∀ j z, j < k → l[j]? = some z → z.key ≠ x.key
  | [], i => .inl ⟨rfl, by simp⟩
  | y :: l, i => by
    simp only [fdA]
    by_cases h : y.key = x.key
    · have hs : y.same x = true := by rw [same_key]; exact decide_eq_true h
      rw [if_pos hs]
      exact .inr ⟨0, y, by simp, by simp, h, fun j z hj => by omega⟩
    · have hs : ¬ y.same x = true := by rw [same_key]; simpa using h
      rw [if_neg hs]
      rcases fdA_spec x l (i + 1) with ⟨a, b⟩ | ⟨k, z, a, b, c, d⟩
      · exact .inl ⟨a, fun w hw => by rcases List.mem_cons.1 hw with rfl | hw; exact h; exact b w hw⟩
      · refine .inr ⟨k + 1, z, by rw [a]; congr 1; omega, by simpa using b, c, fun j w hj hw => ?_⟩
        cases j with
        | zero => simp at hw; subst hw; exact h
        | succ j => exact d j w (by omega) (by simpa using hw)
/-- The same, by the names' places. -/
theorem fd_dA {N : List AtK} (x : Atm) (hx : x.key ∈ N) : ∀ (l : List Atm) (i : Nat), (∀ y ∈ l, y.key ∈ N) → (fd (dA N l) (N.idxOf x.key) = none ∧ fdA x l i = -1) ∨ ∃ k y, fd (dA N l) (N.idxOf x.key) = some (k, y.z) ∧ fdA x l i = ((i + k : Nat) : Int) ∧ l[k]? = some y
  | [], i, _ => .inl ⟨rfl, rfl⟩
  | y :: l, i, hl => by
    have e : dA N (y :: l) = (N.idxOf y.key, y.z) :: dA N l := rfl
    rw [e]
    simp only [fd, fdA]
    have hy := hl y (by simp)
    by_cases h : y.key = x.key
    · have hs : y.same x = true := by rw [same_key]; exact decide_eq_true h
      rw [if_pos hs, if_pos (by rw [h])]
      exact .inr ⟨0, y, rfl, by simp, by simp⟩
    · have hs : ¬ y.same x = true := by rw [same_key]; simpa using h
      have hne : ¬ N.idxOf y.key = N.idxOf x.key := fun q => h (by
        have h1 := List.getElem_idxOf (List.idxOf_lt_length_of_mem hy)
        have h2 := List.getElem_idxOf (List.idxOf_lt_length_of_mem hx)
        rw [← h1, ← h2]
        congr 1)
      rw [if_neg hs, if_neg hne]
      rcases fd_dA x hx l (i + 1) (fun z hz => hl z (by simp [hz])) with ⟨a, b⟩ | ⟨k, z, a, b, c⟩
      · exact .inl ⟨by rw [a]; rfl, b⟩
      · exact .inr ⟨k + 1, z, by rw [a]; rfl, by rw [b]; congr 1; omega, by simpa using c⟩
theorem fst_dA (N : List AtK) (l : List Atm) : (dA N l).map Prod.fst = (l.map Atm.key).map N.idxOf := by simp [dA]
theorem snd_key {N : List AtK} {l : List Atm} (hl : ∀ y ∈ l, y.key ∈ N) : sndD (dA N l) = decide ((l.map Atm.key).Nodup) := by
  unfold sndD
  rw [fst_dA]
  congr 1
  apply propext
  constructor
  · intro h
    rw [List.nodup_iff_pairwise_ne, List.pairwise_map] at h
    rw [List.nodup_iff_pairwise_ne]
    exact h.imp (fun hab e => hab (by rw [e]))
  · intro h
    rw [List.nodup_iff_pairwise_ne, List.pairwise_map]
    refine h.imp_of_mem ?_
    intro a b ha hb hab q
    apply hab
    obtain ⟨x, hx, rfl⟩ := List.mem_map.1 ha
    obtain ⟨y, hy, rfl⟩ := List.mem_map.1 hb
    have h1 := List.getElem_idxOf (List.idxOf_lt_length_of_mem (hl x hx))
    have h2 := List.getElem_idxOf (List.idxOf_lt_length_of_mem (hl y hy))
    rw [← h1, ← h2]
    congr 1
theorem nodup_fdA {l : List Atm} (h : ∀ (i : Nat) (x : Atm), l[i]? = some x → fdA x l 0 = (i : Int)) : (l.map Atm.key).Nodup := by
  rw [List.nodup_iff_pairwise_ne, List.pairwise_map, List.pairwise_iff_getElem]
  intro i j hi hj hij hk
  have h1 := h i l[i] (by simp [hi])
  have h2 := h j l[j] (by simp [hj])
  have e : ∀ (m : List Atm) (t : Nat), fdA l[i] m t = fdA l[j] m t := by
    intro m
    induction m with
    | nil => intro t; rfl
    | cons y m ih => intro t; rw [fdA, fdA, same_key, same_key, hk, ih]
  rw [e l 0, h2] at h1
  omega
theorem fdA_nodup {l : List Atm} (h : (l.map Atm.key).Nodup) {i : Nat} {x : Atm} (hx : l[i]? = some x) : fdA x l 0 = (i : Int) := by
  have hil := (List.getElem?_eq_some_iff.1 hx).1
  rcases fdA_spec x l 0 with ⟨-, b⟩ | ⟨k, y, a, b, c, d⟩
  · exact absurd rfl (b x (List.mem_of_getElem? hx))
  · have hkl := (List.getElem?_eq_some_iff.1 b).1
    by_cases hki : k = i
    · subst hki; simpa using a
    · exfalso
      rw [List.nodup_iff_pairwise_ne, List.pairwise_map, List.pairwise_iff_getElem] at h
      rcases Nat.lt_or_ge k i with q | q
      · refine h k i hkl hil q ?_
        rw [(List.getElem?_eq_some_iff.1 b).2, (List.getElem?_eq_some_iff.1 hx).2]
        exact c
      · exact d i x (by omega) hx rfl
theorem rda_ln {W : World} {v : Value} {l : List Atm} (h : Ln W 82 v l.length (acs l)) : RdA W v l := by
  obtain ⟨ao, cp, rfl, hc⟩ := h.form
  refine ⟨ao, cp, rfl, hc, fun i x hx => ?_⟩
  obtain ⟨f0, f1, f2, f3⟩ := acs_at l i x hx
  obtain ⟨g, off, cur, e, h1, h2⟩ := h.at f0
  exact ⟨g, off, e, lt_heap h1, h2 _ _ f0, by rw [Nat.add_assoc]; exact h2 _ _ f1, by rw [Nat.add_assoc]; exact h2 _ _ f2, by rw [Nat.add_assoc]; exact h2 _ _ f3⟩
theorem ret_bT {a b : Bool} (h : a = b) : Ending.returned (.bool a) = .returned (.bool b) := by rw [h]
set_option maxRecDepth 20000 in
set_option maxHeartbeats 1000000 in
theorem rsound_any (v : Value) (l : List Atm) (w : World) (hr : RdA w v l) (hm : l.length ≤ 1048576) :
    Calls Try.prog 18 #[v] w fun e w' => e = .returned (.bool (decide ((l.map Atm.key).Nodup))) ∧ Below w.heap.size w w' := by
  obtain ⟨ao, cp, rfl, -⟩ := id hr
  obtain ⟨T, HT⟩ : ∃ T, Hid (decide ((l.map Atm.key).Nodup) = T) := ⟨_, rfl⟩
  rw [HT.out]
  go_enter Try.func18, Try.ntmps18
  go_wp2_with fail
  go_loopw [3] (fun i wr => ∃ k : Nat, k ≤ l.length ∧ i = .int .i64 (k : Int) ∧ Hid (∀ (j : Nat) (x : Atm), j < k → l[j]? = some x → fdA x l 0 = (j : Int)) ∧ Below w.heap.size w wr) (fun i _ => l.length - (Go.RowKit.intOf i).toNat)
  case atStart => exact ⟨0, Nat.zero_le _, rfl, fun j x h => by omega, Below.refl _ _⟩
  case round =>
    obtain ⟨k, hk, rfl, HF, hb⟩ := hrel
    by_cases hlt : k < l.length
    · have hlt' : (k : Int) < (l.length : Int) := by omega
      have hx : l[k]? = some l[k] := by simp [hlt]
      obtain ⟨ba, oa, rfl, hba, c0, c1, c2, c3⟩ := rda_at hr hx
      have q := fun o => hb.cell (p := ⟨ba, o, none⟩) hba
      rw [← q] at c0 c1 c2 c3
      have cF := rfind_any _ l l[k] wr (hr.below hb) (by omega)
      have HY : Hid (fdA l[k] l 0 = (k : Int) → ∀ (j : Nat) (x : Atm), j < k + 1 → l[j]? = some x → fdA x l 0 = (j : Int)) := fun he j x hj hxj => by
        by_cases hjk : j = k
        · subst hjk
          rw [hx] at hxj
          cases hxj
          exact he
        · exact HF.out j x (by omega) hxj
      have HN : Hid (fdA l[k] l 0 ≠ (k : Int) → T = false) := fun hne => by
        rw [← HT.out]
        exact decide_eq_false (fun hd => hne (fdA_nodup hd hx))
      clear q hx HF HT
      generalize l[k] = x at *
      generalize fdA x l 0 = z at *
      by_cases hz : z = (k : Int)
      · have HY2 := HY.out hz
        have HY3 : Hid (∀ (j : Nat) (x : Atm), j < k + 1 → l[j]? = some x → fdA x l 0 = (j : Int)) := HY2
        subst hz
        clear HY HY2 HN
        go_wp2_with fail
        refine cF.mono ?_
        rintro e w2 ⟨rfl, hb2⟩
        clear cF c0 c1 c2 c3
        go_wp2_with fail
        exact ⟨⟨k + 1, by omega, by go_num, HY3, chain hb hb2⟩, by simp [Go.RowKit.intOf]; omega⟩
      · have HX : Hid (T = false) := HN.out hz
        have hz1 : (z == (k : Int)) = false := beq_eq_false_iff_ne.2 hz
        clear HY HN
        go_wp2_with fail
        refine cF.mono ?_
        rintro e w2 ⟨rfl, hb2⟩
        clear cF c0 c1 c2 c3
        go_wp2_with fail
        go_ret
        exact ⟨ret_bT HX.out.symm, chain hb hb2⟩
    · obtain rfl : k = l.length := by omega
      have HX : Hid (T = true) := by
        show _ = _
        rw [← HT.out]
        exact decide_eq_true (nodup_fdA fun i x hx => HF.out i x (List.getElem?_eq_some_iff.1 hx).1 hx)
      clear HF HT
      go_wp2_with fail
      go_ret
      exact ⟨ret_bT HX.out.symm, hb⟩
end Go.Proofs.Ytjimolafoihnpaa.tc
