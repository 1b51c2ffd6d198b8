/-
  The contracts of stepsOf, Check, Base and Target.
-/
import Derived.Test.YtaopfdgebibpeaaDlB
namespace Go.Proofs.Ytaopfdgebibpeaa
open Go.ChangeShapes Go.WideShapes Go.ChangeAt Go.RowKit Go.PlainAid

theorem Try.infoSt : (Try.prog.info? 79).map (fun i => (i.zero, i.size, i.bytes)) = some (some .nilIface, 1, 16) := by kernel_rfl

/-- A text that came in is no longer than memory. -/
def OpD.In (o : OpD) : Prop := o.t.size ≤ 140737488355328
/-- The steps of operations. -/
def stl (ds : List OpD) : List St := ds.filterMap stOf
/-- Check's error. -/
def chk (ds : List OpD) : Int := if 3000 < ds.length then 90 else if ds.any (fun o => (stOf o).isNone) then 90 else if 1000 < bsum (stl ds) ∨ 1000 < tsum (stl ds) then 91 else 0
def stR (ds : List OpD) : List St := if chk ds = 0 then stl ds else []

theorem stl_len (ds : List OpD) : (stl ds).length ≤ ds.length := List.length_filterMap_le ..
theorem stl_take {ds : List OpD} {k : Nat} (h : k < ds.length) {s : St} (hs : stOf ds[k] = some s) : stl (ds.take (k + 1)) = stl (ds.take k) ++ [s] := by
  rw [List.take_succ_eq_append_getElem h, stl, stl, List.filterMap_append]
  simp [hs]
theorem stOf_ok {o : OpD} {s : St} (hi : o.In) (h : stOf o = some s) : s.Ok := by
  unfold stOf at h
  split at h
  · rename_i h1
    split at h
    · cases h; simp only [St.Ok]; omega
    · split at h
      · cases h; simp only [St.Ok]; omega
      · cases h
  · split at h
    · rename_i h1
      cases h; exact ⟨h1.2.2, hi⟩
    · cases h
theorem stl_ok {ds : List OpD} (hi : ∀ o ∈ ds, o.In) : ∀ s ∈ stl ds, s.Ok := by
  intro s hs
  obtain ⟨o, ho, h⟩ := List.mem_filterMap.1 hs
  exact stOf_ok (hi o ho) h
theorem stR_ok {ds : List OpD} (hi : ∀ o ∈ ds, o.In) : ∀ s ∈ stR ds, s.Ok := by
  unfold stR
  split
  · exact stl_ok hi
  · simp
theorem any_none {ds : List OpD} {k : Nat} (h : k < ds.length) (hs : stOf ds[k] = none) : ds.any (fun o => (stOf o).isNone) = true :=
  List.any_eq_true.2 ⟨ds[k], List.getElem_mem h, by rw [hs]; rfl⟩
theorem stR_len (ds : List OpD) : (stR ds).length ≤ 3000 := by
  unfold stR
  split
  · rename_i h
    unfold chk at h
    split at h
    · omega
    · have := stl_len ds; omega
  · simp
theorem stR_bd (ds : List OpD) : bsum (stR ds) ≤ 1000 ∧ tsum (stR ds) ≤ 1000 := by
  unfold stR
  split
  · rename_i h
    unfold chk at h
    split at h; · omega
    split at h; · omega
    split at h; · omega
    omega
  · simp [bsum, tsum]
theorem chk_no (ds : List OpD) (h : chk ds ≠ 0) : stR ds = [] := if_neg h
theorem chk_yes (ds : List OpD) (h : chk ds = 0) : stR ds = stl ds := if_pos h
theorem nil_ne (v : Value) (T : TypeId) (W : World) : (binOp .eql 79 (.iface T v) .nilIface).run Try.prog W = .ok (.bool false) W := by kernel_rfl
theorem nil_eq (W : World) : (binOp .eql 79 .nilIface .nilIface).run Try.prog W = .ok (.bool true) W := by kernel_rfl
theorem val_ne (s : St) (W : World) : (binOp .eql 79 s.val .nilIface).run Try.prog W = .ok (.bool false) W := by
  cases s <;> exact nil_ne _ _ W
theorem val_one (s : St) : s.val.oneCell' = true := by cases s <;> rfl

set_option maxRecDepth 20000 in
set_option maxHeartbeats 4000000 in
theorem stepsOf_any (v : Value) (ds : List OpD) (w : World) (hr : RdD w v ds) (hm : ds.length ≤ maxLen) (hi : ∀ o ∈ ds, o.In) :
    Calls Try.prog 32 #[v] w fun e w' => ∃ u, e = .returned (.tuple #[u, .int .i64 (chk ds)]) ∧ w'.ownsRow w.heap.size 79 1 u (stR ds).length (sv (stR ds)) ∧ Below w.heap.size w w' := by
  obtain ⟨i0, hin, hz0, hz1, hz2⟩ := info_parts Try.infoSt
  obtain ⟨ao, cp, rfl, _, hc⟩ := hr
  unfold maxLen at hm
  by_cases hbig : 3000 < ds.length
  · have e1 : chk ds = 90 := by rw [chk, if_pos hbig]
    have e2 : stR ds = [] := chk_no ds (by rw [e1]; decide)
    rw [e1, e2]
    have hb' : (3000 : Int) < (ds.length : Int) := by omega
    clear hc hi hin hz0 hz1 hz2
    go_enter Try.func32, Try.ntmps32
    go_wp2
    go_ret2
    exact ⟨_, rfl, World.ownsRow_nil _ _ _ _, Below.refl _ _⟩
  · have hb' : ¬ (3000 : Int) < (ds.length : Int) := by omega
    have hvn := val_ne
    have hnn := nil_eq
    have HC : Hid (chk ds = if ds.any (fun o => (stOf o).isNone) then 90 else if 1000 < bsum (stl ds) ∨ 1000 < tsum (stl ds) then 91 else 0) := by show _ = _; rw [chk, if_neg hbig]
    go_enter Try.func32, Try.ntmps32
    go_wp2_with (refine wpList_make_own _ rfl _ (.tmp 14) 74 rfl w.heap.size 79 i0 .nilIface 1 Try.underlying74 hin hz0 hz1 .i64 .i64 (ds.length : Int) ds.length rfl rfl rfl (by rw [hz2]; omega) (by unfold maxLen; omega) (Nat.le_refl _) ?_; intro w2 ho2 hg2)
    have hb2 : Below w.heap.size w w2 := ⟨hg2.os, hg2.tape, hg2.output, hg2.size, fun k hk => hg2.block k hk (by simp)⟩
    clear hg2
    go_loopw [4, 18] (fun t i wr => ∃ k : Nat, k ≤ ds.length ∧ i = .int .i64 (k : Int) ∧ wr.ownsRow w.heap.size 79 1 t (stl (ds.take k)).length (sv (stl (ds.take k))) ∧ Below w.heap.size w wr ∧ Hid (∀ j (h : j < ds.length), j < k → stOf ds[j] ≠ none)) (fun _ i _ => ds.length - (intOf i).toNat)
    case atStart => exact ⟨0, by omega, rfl, ho2, hb2, fun j _ hj => by omega⟩
    case round =>
      obtain ⟨k, hk, rfl, hown, hbl, hall⟩ := hrel
      clear ho2
      have hsz := hbl.size
      by_cases hlt : k < ds.length
      · have hlt' : (k : Int) < (ds.length : Int) := by omega
        obtain ⟨b, off, rfl, hbb, c0, c1, c2⟩ := hc k ds[k] (by simp [hlt])
        have hBc : ∀ o, wr.cell? ⟨b, o, none⟩ = w.cell? ⟨b, o, none⟩ := fun o => hbl.cell (p := ⟨b, o, none⟩) hbb
        rw [← hBc] at c0 c1 c2
        have hin' := hi ds[k] (List.getElem_mem hlt)
        have HT : Hid (∀ s, stOf ds[k] = some s → stl (ds.take (k + 1)) = stl (ds.take k) ++ [s]) := fun s hs => stl_take hlt hs
        have HN : Hid (stOf ds[k] = none → chk ds = 90 ∧ stR ds = []) := fun hn => by
          have e1 : chk ds = 90 := by rw [HC.out, if_pos (any_none hlt hn)]
          exact ⟨e1, chk_no ds (by rw [e1]; decide)⟩
        have HA : Hid (∀ s, stOf ds[k] = some s → ∀ j (h : j < ds.length), j < k + 1 → stOf ds[j] ≠ none) := fun s hs j h hj => by
          by_cases e : j = k
          · subst e; rw [hs]; simp
          · exact hall.out j h (by omega)
        have hlen : (stl (ds.take k)).length ≤ 3000 := by have := stl_len (ds.take k); rw [List.length_take] at this; omega
        clear hBc hc hi hall HC
        generalize ds[k] = o at *
        have hS := fun W => stepOf_any o W (by unfold OpD.In at hin'; unfold maxLen; omega)
        cases ho : stOf o with
        | none =>
          rw [ho] at hS
          simp only [stO] at hS
          have HN' := HN.out ho
          have HQ : Hid (chk ds = 90 ∧ stR ds = []) := HN'
          clear HN HT HA ho HN'
          go_wp2_with (go_at_call 42; refine (hS _).mono ?_; rintro e w3 ⟨rfl, hb3⟩)
          go_ret2
          refine ⟨_, by rw [HQ.out.1]; rfl, ?_, ?_⟩
          · rw [HQ.out.2]
            exact World.ownsRow_nil _ _ _ _
          · exact ((hbl.alloc hsz _)).trans (hb3.mono (by simp; omega))
        | some s =>
          rw [ho] at hS
          simp only [stO] at hS
          have HT' : Hid (stl (ds.take (k + 1)) = stl (ds.take k) ++ [s]) := HT.out s ho
          have HA' : Hid (∀ j (h : j < ds.length), j < k + 1 → stOf ds[j] ≠ none) := HA.out s ho
          clear HN HT HA ho
          have HV : Hid (sv (stl (ds.take k) ++ [s]) = sv (stl (ds.take k)) ++ [s.val]) := by show _ = _; rw [sv_append]; rfl
          obtain ⟨T, u, hT⟩ : ∃ T u, s.val = .iface T u := by cases s <;> exact ⟨_, _, rfl⟩
          rw [hT] at hS HV
          have h1 := nil_ne u T
          clear hT hvn
          go_wp2_with (first | (go_at_call 42; refine (hS _).mono ?_; rintro e w3 ⟨rfl, hb3⟩; have hown3 := own_below (hown.alloc _) hb3; have hs3 := hb3.size; simp only [World.size_alloc] at hs3) | (at_builtin; refine wpList_append_own _ rfl (.tmp 26) (.tmp 28) 74 rfl w.heap.size 79 i0 .nilIface 1 16 Try.underlying74 hin hz0 hz1 hz2 rfl (by decide) _ _ _ rfl (hown3.alloc _) ⟨_, 0, none⟩ 1 1 [.iface T u] rfl rfl (one_new _ _ _) (one_one _ rfl) (by unfold maxLen; omega) (by omega) (by simp; omega) ?_; intro v' w4 ho4 hg4 hnil4))
          have R2 := below_app (Nat.le_refl _) ((hbl.alloc hsz _).trans (hb3.mono (by simp; omega))) hown3 hg4
          go_roundw
          case rel =>
            refine ⟨k + 1, by omega, by go_num, ?_, R2, HA'.out⟩
            rw [HT'.out, HV.out, List.length_append]
            exact ho4
          case measure => simp [intOf]; omega
      · have e : k = ds.length := by omega
        subst e
        rw [List.take_length] at hown
        have hany : ds.any (fun o => (stOf o).isNone) = false := by
          rw [List.any_eq_false]
          intro o ho
          obtain ⟨j, hj, rfl⟩ := List.getElem_of_mem ho
          have := hall.out j hj hj
          cases hh : stOf ds[j] with
          | none => exact absurd hh this
          | some s => simp
        have HC2 : Hid (chk ds = if 1000 < bsum (stl ds) ∨ 1000 < tsum (stl ds) then 91 else 0) := by show _ = _; rw [HC.out, hany]; rfl
        have hll := stl_len ds
        have hsk := stl_ok hi
        have hL := lengths_any _ (stl ds) wr (rdv_own hown) (by omega) hsk
        have hsb := sum_bd _ hsk
        clear hall HC hc hi hany hin hz0 hz1 hz2
        generalize hB : bsum (stl ds) = B at *
        generalize hT : tsum (stl ds) = T at *
        have hB1 : (B : Int) ≤ 3000000 := by omega
        have hT1 : (T : Int) ≤ 422212465065984000 := by omega
        by_cases c1 : (1000 : Int) < (B : Int)
        · have HQ : Hid (chk ds = 91 ∧ stR ds = []) := by
            have e1 : chk ds = 91 := by rw [HC2.out, if_pos (.inl (by omega))]
            exact ⟨e1, chk_no ds (by rw [e1]; decide)⟩
          clear HC2 hB hT hsb hsk hll
          go_wp2_with (go_at_call 43; refine hL.mono ?_; rintro e w3 ⟨rfl, rfl⟩)
          go_ret2
          exact ⟨_, by rw [HQ.out.1]; rfl, by rw [HQ.out.2]; exact World.ownsRow_nil _ _ _ _, hbl⟩
        · by_cases c2 : (1000 : Int) < (T : Int)
          · have HQ : Hid (chk ds = 91 ∧ stR ds = []) := by
              have e1 : chk ds = 91 := by rw [HC2.out, if_pos (.inr (by omega))]
              exact ⟨e1, chk_no ds (by rw [e1]; decide)⟩
            clear HC2 hB hT hsb hsk hll
            go_wp2_with (go_at_call 43; refine hL.mono ?_; rintro e w3 ⟨rfl, rfl⟩)
            go_ret2
            exact ⟨_, by rw [HQ.out.1]; rfl, by rw [HQ.out.2]; exact World.ownsRow_nil _ _ _ _, hbl⟩
          · have HQ : Hid (chk ds = 0 ∧ stR ds = stl ds) := by
              have e1 : chk ds = 0 := by rw [HC2.out, if_neg (by omega)]
              exact ⟨e1, chk_yes ds e1⟩
            clear HC2 hB hT hsb hsk hll
            go_wp2_with (go_at_call 43; refine hL.mono ?_; rintro e w3 ⟨rfl, rfl⟩)
            go_ret2
            exact ⟨_, by rw [HQ.out.1]; rfl, by rw [HQ.out.2]; exact hown, hbl⟩

theorem check_any (v : Value) (ds : List OpD) (w : World) (hr : RdD w v ds) (hm : ds.length ≤ maxLen) (hi : ∀ o ∈ ds, o.In) :
    Calls Try.prog 29 #[v] w fun e w' => e = .returned (.int .i64 (chk ds)) ∧ Below w.heap.size w w' := by
  have hS := stepsOf_any v ds w hr hm hi
  go_enter Try.func29, Try.ntmps29
  go_wp2_with (go_at_call 32; refine hS.mono ?_; rintro e w1 ⟨u, rfl, ho1, hb1⟩)
  go_ret
  exact ⟨rfl, hb1⟩
end Go.Proofs.Ytaopfdgebibpeaa
