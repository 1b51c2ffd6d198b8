/-
  The contract of the reference's Check.
-/
import Derived.Test.YtdheddgdlindmaaDlF
import Derived.Test.YtdheddgdlindmaaDlL
namespace Go.Proofs.Ytdheddgdlindmaa
open Go.ChangeShapes Go.WideShapes Go.ChangeAt Go.RowKit Go.PlainAid

/-- Texts that the reference can take apart. -/
def OpD.Sm (o : OpD) : Prop := o.t.size ≤ 1048576
theorem sm_in {o : OpD} (h : o.Sm) : o.In := by unfold OpD.Sm at h; unfold OpD.In; omega

set_option maxRecDepth 20000 in
set_option maxHeartbeats 8000000 in
theorem refCheck_any (v : Value) (ds : List OpD) (w : World) (hr : RdD w v ds) (hm : ds.length ≤ maxLen) (hi : ∀ o ∈ ds, o.Sm) :
    Calls Try.prog 58 #[v] w fun e w' => e = .returned (.int .i64 (chk ds)) ∧ Below w.heap.size w w' := by
  obtain ⟨ao, cp, rfl, _, hc⟩ := hr
  unfold maxLen at hm
  by_cases hbig : 3000 < ds.length
  · have e1 : chk ds = 90 := by rw [chk, if_pos hbig]
    rw [e1]
    have hb' : (3000 : Int) < (ds.length : Int) := by omega
    clear hc hi
    go_enter Try.func58, Try.ntmps58
    go_wp2
    go_ret
    exact ⟨rfl, Below.refl _ _⟩
  · have hb' : ¬ (3000 : Int) < (ds.length : Int) := by omega
    have HC : Hid (chk ds = if ds.any (fun o => (stOf o).isNone) then 90 else if 1000 < bsum (stl ds) ∨ 1000 < tsum (stl ds) then 91 else 0) := by show _ = _; rw [chk, if_neg hbig]
    have hsk := stl_ok (fun o ho => sm_in (hi o ho))
    go_enter Try.func58, Try.ntmps58
    go_wp2
    go_loopw [3, 4, 5] (fun b t i wr => ∃ k : Nat, k ≤ ds.length ∧ i = .int .i64 (k : Int) ∧ b = .int .i64 (bsum (stl (ds.take k)) : Int) ∧ t = .int .i64 (tsum (stl (ds.take k)) : Int) ∧ Below w.heap.size w wr ∧ Hid (∀ j (h : j < ds.length), j < k → stOf ds[j] ≠ none)) (fun _ _ i _ => ds.length - (intOf i).toNat)
    case atStart => exact ⟨0, by omega, rfl, rfl, rfl, Below.refl _ _, fun j _ hj => by omega⟩
    case round =>
      obtain ⟨k, hk, rfl, rfl, rfl, hbl, hall⟩ := hrel
      have hsz := hbl.size
      have hsb := sum_bd _ (stl_ok (ds := ds.take k) (fun o ho => sm_in (hi o (List.mem_of_mem_take ho))))
      have hkl : (stl (ds.take k)).length ≤ 3000 := by have := stl_len (ds.take k); rw [List.length_take] at this; omega
      have b1 : (bsum (stl (ds.take k)) : Int) ≤ 3000000 := by omega
      have t1 : (tsum (stl (ds.take k)) : Int) ≤ 422212465065984000 := by omega
      clear hsb hkl
      by_cases hlt : k < ds.length
      · have hlt' : (k : Int) < (ds.length : Int) := by omega
        obtain ⟨b, off, rfl, hbb, c0, c1, c2⟩ := hc k ds[k] (by simp [hlt])
        have hBc : ∀ o, wr.cell? ⟨b, o, none⟩ = w.cell? ⟨b, o, none⟩ := fun o => hbl.cell (p := ⟨b, o, none⟩) hbb
        rw [← hBc] at c0 c1 c2
        have hin' := hi ds[k] (List.getElem_mem hlt)
        have HT : Hid (∀ s, stOf ds[k] = some s → stl (ds.take (k + 1)) = stl (ds.take k) ++ [s]) := fun s hs => stl_take hlt hs
        have HN : Hid (stOf ds[k] = none → chk ds = 90) := fun hn => by rw [HC.out, if_pos (any_none hlt hn)]
        have HA : Hid (∀ s, stOf ds[k] = some s → ∀ j (h : j < ds.length), j < k + 1 → stOf ds[j] ≠ none) := fun s hs j h hj => by
          by_cases e : j = k
          · subst e; rw [hs]; simp
          · exact hall.out j h (by omega)
        clear hBc hc hi hall HC hsk
        generalize ds[k] = o at *
        have hL := fun W => refLen_any o.t W hin'
        have hcl := cpl_le o.t
        have hcl1 : cpl o.t ≤ 1048576 := by unfold OpD.Sm at hin'; omega
        cases ho : stOf o with
        | some s =>
          have hop := st_op ho
          have hsok := stOf_ok (sm_in hin') ho
          have HT' : Hid (stl (ds.take (k + 1)) = stl (ds.take k) ++ [s]) := HT.out s ho
          have HA' : Hid (∀ j (h : j < ds.length), j < k + 1 → stOf ds[j] ≠ none) := HA.out s ho
          have HB : Hid (bsum (stl (ds.take (k + 1))) = bsum (stl (ds.take k)) + s.b ∧ tsum (stl (ds.take (k + 1))) = tsum (stl (ds.take k)) + s.c) := by
            constructor
            · rw [HT'.out, bsum_append]; simp [bsum]
            · rw [HT'.out, tsum_append]; simp [tsum]
          subst hop
          clear HN HT HA ho HT' hcl
          generalize bsum (stl (ds.take k)) = B at *
          generalize tsum (stl (ds.take k)) = T at *
          cases s with
          | keep n =>
            simp only [St.op, St.Ok, St.b, St.c] at *
            have n1 : (n : Int) ≤ 1000 := by omega
            have n0 : (1 : Int) ≤ (n : Int) := by omega
            go_wp2_with (go_at_call 77; refine (hL _).mono ?_; rintro e w3 ⟨rfl, hb3⟩; have hbx := (hb3.block wr.heap.size (by simp)).trans (heap_alloc_new wr _); have g0 := cell_of_row _ _ 0 _ _ (0, 0) hbx; have g1 := cell_of_row _ _ 1 _ _ (0, 0) hbx; have g2 := cell_of_row _ _ 2 _ _ (0, 0) hbx; simp at g0 g1 g2; have hB3 := (hbl.alloc hsz _).trans (hb3.mono (by simp; omega)); clear hbx hb3)
            go_roundw
            case rel => exact ⟨k + 1, by omega, by go_num, by rw [HB.out.1]; go_num, by rw [HB.out.2]; go_num, hB3, HA'⟩
            case measure => simp [intOf]; omega
          | rem n =>
            simp only [St.op, St.Ok, St.b, St.c] at *
            have n1 : (n : Int) ≤ 1000 := by omega
            have n0 : (1 : Int) ≤ (n : Int) := by omega
            go_wp2_with (go_at_call 77; refine (hL _).mono ?_; rintro e w3 ⟨rfl, hb3⟩; have hbx := (hb3.block wr.heap.size (by simp)).trans (heap_alloc_new wr _); have g0 := cell_of_row _ _ 0 _ _ (0, 0) hbx; have g1 := cell_of_row _ _ 1 _ _ (0, 0) hbx; have g2 := cell_of_row _ _ 2 _ _ (0, 0) hbx; simp at g0 g1 g2; have hB3 := (hbl.alloc hsz _).trans (hb3.mono (by simp; omega)); clear hbx hb3)
            go_roundw
            case rel => exact ⟨k + 1, by omega, by go_num, by rw [HB.out.1]; go_num, by rw [HB.out.2]; go_num, hB3, HA'⟩
            case measure => simp [intOf]; omega
          | ins t =>
            simp only [St.op, St.Ok, St.b, St.c] at *
            obtain ⟨n, hn⟩ := Int.eq_ofNat_of_zero_le (show 0 ≤ cpl t by omega)
            rw [hn] at hL hcl1 HB
            rw [Int.toNat_natCast] at HB
            have n0 : (1 : Int) ≤ (n : Int) := by omega
            clear hn hsok
            go_wp2_with (go_at_call 77; refine (hL _).mono ?_; rintro e w3 ⟨rfl, hb3⟩; have hbx := (hb3.block wr.heap.size (by simp)).trans (heap_alloc_new wr _); have g0 := cell_of_row _ _ 0 _ _ (0, 0) hbx; have g1 := cell_of_row _ _ 1 _ _ (0, 0) hbx; have g2 := cell_of_row _ _ 2 _ _ (0, 0) hbx; simp at g0 g1 g2; have hB3 := (hbl.alloc hsz _).trans (hb3.mono (by simp; omega)); clear hbx hb3)
            go_roundw
            case rel => exact ⟨k + 1, by omega, by go_num, by rw [HB.out.1]; go_num, by rw [HB.out.2]; go_num, hB3, HA'⟩
            case measure => simp [intOf]; omega
        | none =>
          have HQ : Hid (chk ds = 90) := HN.out ho
          clear HN HT HA hcl
          obtain ⟨K, N, t⟩ := o
          simp only [OpD.Sm] at *
          simp only [stOf] at ho
          generalize bsum (stl (ds.take k)) = B at *
          generalize tsum (stl (ds.take k)) = T at *
          by_cases h : 1 ≤ N ∧ N ≤ 1000 ∧ t.size = 0
          · rw [if_pos h] at ho
            obtain ⟨h1, h2, h3⟩ := h
            have k1 : K ≠ 1 := fun e => by rw [if_pos e] at ho; cases ho
            have k3 : K ≠ 3 := fun e => by rw [if_neg k1, if_pos e] at ho; cases ho
            have k1' : (K == 1) = false := by simpa using k1
            have k3' : (K == 3) = false := by simpa using k3
            have hE := empty_tt h3
            clear ho
            by_cases k2 : K = 2
            · subst k2
              have n0 : (N != 0) = true := by simp; omega
              clear k1 k3 k1' k3'
              go_wp2_with (go_at_call 77; refine (hL _).mono ?_; rintro e w3 ⟨rfl, hb3⟩; have hbx := (hb3.block wr.heap.size (by simp)).trans (heap_alloc_new wr _); have g0 := cell_of_row _ _ 0 _ _ (0, 0) hbx; have g1 := cell_of_row _ _ 1 _ _ (0, 0) hbx; have g2 := cell_of_row _ _ 2 _ _ (0, 0) hbx; simp at g0 g1 g2; have hB3 := (hbl.alloc hsz _).trans (hb3.mono (by simp; omega)); clear hbx hb3)
              go_ret
              exact ⟨by rw [HQ.out]; rfl, hB3⟩
            · have k2' : (K == 2) = false := by simpa using k2
              clear k1 k2 k3
              go_wp2_with (go_at_call 77; refine (hL _).mono ?_; rintro e w3 ⟨rfl, hb3⟩; have hbx := (hb3.block wr.heap.size (by simp)).trans (heap_alloc_new wr _); have g0 := cell_of_row _ _ 0 _ _ (0, 0) hbx; have g1 := cell_of_row _ _ 1 _ _ (0, 0) hbx; have g2 := cell_of_row _ _ 2 _ _ (0, 0) hbx; simp at g0 g1 g2; have hB3 := (hbl.alloc hsz _).trans (hb3.mono (by simp; omega)); clear hbx hb3)
              go_ret
              exact ⟨by rw [HQ.out]; rfl, hB3⟩
          · rw [if_neg h] at ho
            by_cases k2 : K = 2
            · subst k2
              by_cases n0 : N = 0
              · subst n0
                have hp : ¬ 0 < cpl t := fun e => by rw [if_pos ⟨rfl, rfl, e⟩] at ho; cases ho
                clear h ho
                generalize cpl t = c at *
                go_wp2_with (go_at_call 77; refine (hL _).mono ?_; rintro e w3 ⟨rfl, hb3⟩; have hbx := (hb3.block wr.heap.size (by simp)).trans (heap_alloc_new wr _); have g0 := cell_of_row _ _ 0 _ _ (0, 0) hbx; have g1 := cell_of_row _ _ 1 _ _ (0, 0) hbx; have g2 := cell_of_row _ _ 2 _ _ (0, 0) hbx; simp at g0 g1 g2; have hB3 := (hbl.alloc hsz _).trans (hb3.mono (by simp; omega)); clear hbx hb3)
                go_ret
                exact ⟨by rw [HQ.out]; rfl, hB3⟩
              · have n0' : (N != 0) = true := by simpa using n0
                clear h ho n0
                go_wp2_with (go_at_call 77; refine (hL _).mono ?_; rintro e w3 ⟨rfl, hb3⟩; have hbx := (hb3.block wr.heap.size (by simp)).trans (heap_alloc_new wr _); have g0 := cell_of_row _ _ 0 _ _ (0, 0) hbx; have g1 := cell_of_row _ _ 1 _ _ (0, 0) hbx; have g2 := cell_of_row _ _ 2 _ _ (0, 0) hbx; simp at g0 g1 g2; have hB3 := (hbl.alloc hsz _).trans (hb3.mono (by simp; omega)); clear hbx hb3)
                go_ret
                exact ⟨by rw [HQ.out]; rfl, hB3⟩
            · have k2' : (K == 2) = false := by simpa using k2
              clear ho
              by_cases k1 : K = 1
              · subst k1
                clear k2 k2'
                by_cases a1 : 1 ≤ N
                · by_cases a2 : N ≤ 1000
                  · have hE := empty_ff (s := t) (fun q => h ⟨a1, a2, q⟩)
                    clear h
                    go_wp2_with (go_at_call 77; refine (hL _).mono ?_; rintro e w3 ⟨rfl, hb3⟩; have hbx := (hb3.block wr.heap.size (by simp)).trans (heap_alloc_new wr _); have g0 := cell_of_row _ _ 0 _ _ (0, 0) hbx; have g1 := cell_of_row _ _ 1 _ _ (0, 0) hbx; have g2 := cell_of_row _ _ 2 _ _ (0, 0) hbx; simp at g0 g1 g2; have hB3 := (hbl.alloc hsz _).trans (hb3.mono (by simp; omega)); clear hbx hb3)
                    go_ret
                    exact ⟨by rw [HQ.out]; rfl, hB3⟩
                  · clear h
                    go_wp2_with (go_at_call 77; refine (hL _).mono ?_; rintro e w3 ⟨rfl, hb3⟩; have hbx := (hb3.block wr.heap.size (by simp)).trans (heap_alloc_new wr _); have g0 := cell_of_row _ _ 0 _ _ (0, 0) hbx; have g1 := cell_of_row _ _ 1 _ _ (0, 0) hbx; have g2 := cell_of_row _ _ 2 _ _ (0, 0) hbx; simp at g0 g1 g2; have hB3 := (hbl.alloc hsz _).trans (hb3.mono (by simp; omega)); clear hbx hb3)
                    go_ret
                    exact ⟨by rw [HQ.out]; rfl, hB3⟩
                · clear h
                  go_wp2_with (go_at_call 77; refine (hL _).mono ?_; rintro e w3 ⟨rfl, hb3⟩; have hbx := (hb3.block wr.heap.size (by simp)).trans (heap_alloc_new wr _); have g0 := cell_of_row _ _ 0 _ _ (0, 0) hbx; have g1 := cell_of_row _ _ 1 _ _ (0, 0) hbx; have g2 := cell_of_row _ _ 2 _ _ (0, 0) hbx; simp at g0 g1 g2; have hB3 := (hbl.alloc hsz _).trans (hb3.mono (by simp; omega)); clear hbx hb3)
                  go_ret
                  exact ⟨by rw [HQ.out]; rfl, hB3⟩
              · have k1' : (K == 1) = false := by simpa using k1
                by_cases k3 : K = 3
                · subst k3
                  clear k1 k1' k2 k2'
                  by_cases a1 : 1 ≤ N
                  · by_cases a2 : N ≤ 1000
                    · have hE := empty_ff (s := t) (fun q => h ⟨a1, a2, q⟩)
                      clear h
                      go_wp2_with (go_at_call 77; refine (hL _).mono ?_; rintro e w3 ⟨rfl, hb3⟩; have hbx := (hb3.block wr.heap.size (by simp)).trans (heap_alloc_new wr _); have g0 := cell_of_row _ _ 0 _ _ (0, 0) hbx; have g1 := cell_of_row _ _ 1 _ _ (0, 0) hbx; have g2 := cell_of_row _ _ 2 _ _ (0, 0) hbx; simp at g0 g1 g2; have hB3 := (hbl.alloc hsz _).trans (hb3.mono (by simp; omega)); clear hbx hb3)
                      go_ret
                      exact ⟨by rw [HQ.out]; rfl, hB3⟩
                    · clear h
                      go_wp2_with (go_at_call 77; refine (hL _).mono ?_; rintro e w3 ⟨rfl, hb3⟩; have hbx := (hb3.block wr.heap.size (by simp)).trans (heap_alloc_new wr _); have g0 := cell_of_row _ _ 0 _ _ (0, 0) hbx; have g1 := cell_of_row _ _ 1 _ _ (0, 0) hbx; have g2 := cell_of_row _ _ 2 _ _ (0, 0) hbx; simp at g0 g1 g2; have hB3 := (hbl.alloc hsz _).trans (hb3.mono (by simp; omega)); clear hbx hb3)
                      go_ret
                      exact ⟨by rw [HQ.out]; rfl, hB3⟩
                  · clear h
                    go_wp2_with (go_at_call 77; refine (hL _).mono ?_; rintro e w3 ⟨rfl, hb3⟩; have hbx := (hb3.block wr.heap.size (by simp)).trans (heap_alloc_new wr _); have g0 := cell_of_row _ _ 0 _ _ (0, 0) hbx; have g1 := cell_of_row _ _ 1 _ _ (0, 0) hbx; have g2 := cell_of_row _ _ 2 _ _ (0, 0) hbx; simp at g0 g1 g2; have hB3 := (hbl.alloc hsz _).trans (hb3.mono (by simp; omega)); clear hbx hb3)
                    go_ret
                    exact ⟨by rw [HQ.out]; rfl, hB3⟩
                · have k3' : (K == 3) = false := by simpa using k3
                  clear h k1 k2 k3
                  go_wp2_with (go_at_call 77; refine (hL _).mono ?_; rintro e w3 ⟨rfl, hb3⟩; have hbx := (hb3.block wr.heap.size (by simp)).trans (heap_alloc_new wr _); have g0 := cell_of_row _ _ 0 _ _ (0, 0) hbx; have g1 := cell_of_row _ _ 1 _ _ (0, 0) hbx; have g2 := cell_of_row _ _ 2 _ _ (0, 0) hbx; simp at g0 g1 g2; have hB3 := (hbl.alloc hsz _).trans (hb3.mono (by simp; omega)); clear hbx hb3)
                  go_ret
                  exact ⟨by rw [HQ.out]; rfl, hB3⟩
      · have e : k = ds.length := by omega
        subst e
        rw [List.take_length] at *
        have hany : ds.any (fun o => (stOf o).isNone) = false := by
          rw [List.any_eq_false]
          intro o ho
          obtain ⟨j, hj, rfl⟩ := List.getElem_of_mem ho
          have := hall.out j hj hj
          cases hh : stOf ds[j] with
          | none => exact absurd hh this
          | some s => simp
        have HC2 : Hid (chk ds = if 1000 < bsum (stl ds) ∨ 1000 < tsum (stl ds) then 91 else 0) := by show _ = _; rw [HC.out, hany]; rfl
        clear hall HC hc hi hany hsk
        generalize bsum (stl ds) = B at *
        generalize tsum (stl ds) = T at *
        by_cases c1 : (1000 : Int) < (B : Int)
        · have HQ : Hid (chk ds = 91) := by show _ = _; rw [HC2.out, if_pos (.inl (by omega))]
          clear HC2
          go_wp2
          go_ret
          exact ⟨by rw [HQ.out]; rfl, hbl⟩
        · by_cases c2 : (1000 : Int) < (T : Int)
          · have HQ : Hid (chk ds = 91) := by show _ = _; rw [HC2.out, if_pos (.inr (by omega))]
            clear HC2
            go_wp2
            go_ret
            exact ⟨by rw [HQ.out]; rfl, hbl⟩
          · have HQ : Hid (chk ds = 0) := by show _ = _; rw [HC2.out, if_neg (by omega)]
            clear HC2
            go_wp2
            go_ret
            exact ⟨by rw [HQ.out]; rfl, hbl⟩
end Go.Proofs.Ytdheddgdlindmaa
