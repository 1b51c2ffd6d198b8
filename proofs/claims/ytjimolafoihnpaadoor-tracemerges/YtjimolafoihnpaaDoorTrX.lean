/-
  The program's runs: names in a row as runs.
-/
import Derived.Test.YtjimolafoihnpaaDoorTrW
import Derived.Test.YtjimolafoihnpaaDoorTrQ
import Derived.Test.YtjimolafoihnpaaDoorBeh
namespace Go.Proofs.YtjimolafoihnpaaDoor.tc
open Go.Maps Go.ChangeShapes Go.WideShapes Go.ChangeAt Go.RowKit Go.PlainAid

/-- A name by its place. -/
def nk (N : List AtK) (n : Nat) : AtK := N.getD n (0, 0, 0)
/-- How far the chain goes behind a name. -/
def chn (N : List AtK) : Nat → List Nat → Nat
  | _, [] => 0
  | a, b :: l => if flw (nk N a) (nk N b) then chn N b l + 1 else 0
theorem chn_le (N : List AtK) : ∀ (l : List Nat) (a : Nat), chn N a l ≤ l.length
  | [], a => by simp [chn]
  | b :: l, a => by
    have := chn_le N l b
    rw [chn]
    split <;> simp <;> omega
theorem chn_in (N : List AtK) : ∀ (l : List Nat) (a i : Nat), i < chn N a l → flw (nk N ((a :: l).getD i 0)) (nk N ((a :: l).getD (i + 1) 0)) = true
  | [], a, i, h => by simp [chn] at h
  | b :: l, a, i, h => by
    rw [chn] at h
    split at h
    · cases i with
      | zero => simpa using ‹flw (nk N a) (nk N b) = true›
      | succ i =>
        have := chn_in N l b i (by omega)
        simpa using this
    · omega
theorem chn_out (N : List AtK) : ∀ (l : List Nat) (a : Nat), chn N a l < l.length → flw (nk N ((a :: l).getD (chn N a l) 0)) (nk N ((a :: l).getD (chn N a l + 1) 0)) = false
  | [], a, h => by simp at h
  | b :: l, a, h => by
    rw [chn] at h ⊢
    split at h
    · rw [if_pos ‹_›]
      have := chn_out N l b (by simpa using h)
      simpa using this
    · rename_i hf
      rw [if_neg hf]
      simpa using hf
/-- The chains of a row. -/
def chs (N : List AtK) : Nat → List Nat → List (List Nat)
  | 0, _ => []
  | _ + 1, [] => []
  | f + 1, a :: l => (a :: l).take (chn N a l + 1) :: chs N f ((a :: l).drop (chn N a l + 1))
theorem chs_nil (N : List AtK) (f : Nat) : chs N f [] = [] := by cases f <;> rfl
/-- A chain as a run. -/
def rnO (N : List AtK) (P : List Int) (c : List Nat) : RunD := ⟨(nk N (c.headD 0)).1, (nk N (c.headD 0)).2.1, (nk N (c.headD 0)).2.2, (textR (c.map fun n => P.getD n 0)).1⟩
/-- A row as runs. -/
def rns (N : List AtK) (P : List Int) (row : List Nat) : List RunD := (chs N row.length row).map (rnO N P)
theorem Ln.cut {W : World} {t : TypeId} {g off n cp : Nat} {row : List Nat} (h : Ln W t (.slice (some ⟨g, off, none⟩) n cp) n (row.map cD).flatten) (i j : Nat) (hj : j ≤ n) : Ln W t (.slice (some ⟨g, off + i, none⟩) (j - i) (cp - i)) ((row.take j).drop i).length (((row.take j).drop i).map cD).flatten ∨ ¬ (row.length = n ∧ i ≤ j) := by
  by_cases hl : row.length = n ∧ i ≤ j
  · left
    obtain ⟨hl, hij⟩ := hl
    obtain ⟨a, c, e, hc, h⟩ := h
    injection e with e1 e2 e3
    subst e1 e3
    have hlen : ((row.take j).drop i).length = j - i := by simp; omega
    refine ⟨_, _, by rw [hlen], by rw [hlen]; omega, ?_⟩
    rcases h with h | ⟨g', off', cur, q, h1, h2⟩
    · left
      have : row = [] := by
        cases row with
        | nil => rfl
        | cons x r => simp [cD] at h
      subst this
      simp
    · injection q with q
      injection q with q1 q2
      subst q1 q2
      refine .inr ⟨_, _, cur, rfl, h1, fun k u hu => ?_⟩
      have hk : k < ((row.take j).drop i).length := by
        have := (List.getElem?_eq_some_iff.1 hu).1
        rw [flat_len cD 1 cD_len] at this
        omega
      have hx : ((row.take j).drop i)[k]? = row[i + k]? := by
        rw [List.getElem?_drop, List.getElem?_take, if_pos (by omega)]
      obtain ⟨x, hx2⟩ : ∃ x, ((row.take j).drop i)[k]? = some x := ⟨_, List.getElem?_eq_getElem hk⟩
      have f1 := flat_at cD 1 cD_len _ k x hx2 0 (by decide)
      have f2 := flat_at cD 1 cD_len row (i + k) x (by rw [← hx]; exact hx2) 0 (by decide)
      simp only [Nat.mul_one, Nat.add_zero] at f1 f2
      rw [f1] at hu
      rw [Nat.add_assoc]
      exact h2 _ _ (by rw [f2]; exact hu)
  · exact .inr hl
set_option maxRecDepth 20000 in
set_option maxHeartbeats 2000000 in
theorem runs_any (b : Nat) (D : List (List (Nat × Int))) (N : List AtK) (row : List Nat) (P : List Int) (vr vp : Value) (w : World) (hr : BkR w b D N) (hR : Ln w 3 vr row.length (row.map cD).flatten) (hP : Ln w 3 vp P.length (iv P)) (hin : ∀ n ∈ row, n < P.length ∧ n < N.length) (hb0 : ∀ k ∈ N, 0 ≤ k.2.2 ∧ k.2.2 ≤ 9223372036854775000) (hl : row.length ≤ 1048576) :
    Calls Tryd.prog 30 #[.pointer (some ⟨b, 0, none⟩), vr, vp] w fun e w' => ∃ v, e = .returned v ∧ w'.ownsRow w.heap.size 44 4 v (rns N P row).length ((rns N P row).map cRn).flatten ∧ Below w.heap.size w w' := by
  obtain ⟨i0, hi, hz0, hz1, hz2⟩ := info_parts infoRun
  obtain ⟨ar, cr, rfl, hcr⟩ := hR.form
  obtain ⟨ap, cp, rfl, hcp⟩ := hP.form
  go_enter Tryd.func30, Tryd.ntmps30
  go_wp2_with fail
  go_loopw [7, 8] (fun u iv' wr => ∃ (j f : Nat) (Y : List (List Nat)), j ≤ row.length ∧ row.length - j ≤ f ∧ iv' = .int .i64 (j : Int) ∧ Hid (Y ++ chs N f (row.drop j) = chs N row.length row) ∧ Y.length ≤ j ∧ wr.ownsRow w.heap.size 44 4 u Y.length ((Y.map (rnO N P)).map cRn).flatten ∧ Below w.heap.size w wr) (fun _ iv' _ => row.length - (Go.RowKit.intOf iv').toNat)
  case atStart => exact ⟨0, row.length, [], by omega, by omega, rfl, by show _ = _; simp, by simp, World.ownsRow_nil _ _ _ _, Below.refl _ _⟩
  case round =>
    obtain ⟨j, f, Y, hj, hf, rfl, HY, hYj, ho, hb⟩ := hrel
    by_cases hlt : j < row.length
    · have hlt' : (j : Int) < (row.length : Int) := by omega
      obtain ⟨f, rfl⟩ : ∃ f', f = f' + 1 := ⟨f - 1, by omega⟩
      obtain ⟨a, l, hal⟩ : ∃ a l, row.drop j = a :: l := ⟨_, _, List.drop_eq_getElem_cons hlt⟩
      have hll : l.length + 1 + j = row.length := by have := congrArg List.length hal; simp at this; omega
      have hcl := chn_le N l a
      have hget : ∀ i, (a :: l).getD i 0 = row.getD (j + i) 0 := fun i => by rw [← hal]; simp [List.getD_eq_getElem?_getD]
      rw [hal, chs] at HY
      go_wp2_with fail
      generalize wr = wa at *
      go_loopw [9] (fun iv' wr => ∃ c : Nat, c ≤ chn N a l ∧ iv' = .int .i64 ((j + c + 1 : Nat) : Int) ∧ Below wa.heap.size wa wr) (fun iv' _ => row.length - (Go.RowKit.intOf iv').toNat)
      case atStart => exact ⟨0, by omega, by go_num, Below.refl _ _⟩
      case round =>
        obtain ⟨c, hc, rfl, hb2⟩ := hrel
        obtain ⟨T, hT⟩ : ∃ T : Bool, Hid (T = decide (c < chn N a l)) := ⟨_, rfl⟩
        obtain ⟨m, Hm⟩ : ∃ m, Hid (m = j + c) := ⟨_, rfl⟩
        rw [← Hm.out]
        go_upto_region 5 with fail
        go_cut [32] (fun t wx => t = .bool T ∧ Below wr.heap.size wr wx)
        case first =>
          have hm := Hm.out
          by_cases h1 : m + 1 < row.length
          · have hd : decide ((m : Int) + 1 < (row.length : Int)) = true := decide_eq_true (by omega)
            have hd2 : (m : Int) + 1 < (row.length : Int) := by omega
            obtain ⟨x, hx⟩ : ∃ x, row[m]? = some x := ⟨_, List.getElem?_eq_getElem (by omega)⟩
            obtain ⟨y, hy⟩ : ∃ y, row[m + 1]? = some y := ⟨_, List.getElem?_eq_getElem (by omega)⟩
            have hxN := (hin x (List.mem_of_getElem? hx)).2
            have hyN := (hin y (List.mem_of_getElem? hy)).2
            have hxk : N[x]? = some (nk N x) := by rw [nk, List.getD_eq_getElem?_getD, List.getElem?_eq_getElem hxN]; rfl
            have hyk : N[y]? = some (nk N y) := by rw [nk, List.getD_eq_getElem?_getD, List.getElem?_eq_getElem hyN]; rfl
            have hT2 : flw (nk N x) (nk N y) = T := by
              have e1 := hget c
              have e2 := hget (c + 1)
              rw [← hm, List.getD_eq_getElem?_getD (l := row), hx] at e1
              rw [← Nat.add_assoc, ← hm, List.getD_eq_getElem?_getD (l := row), hy] at e2
              rw [hT.out]
              by_cases hcl2 : c < chn N a l
              · have := chn_in N l a c hcl2
                rw [e1, e2] at this
                rw [decide_eq_true hcl2]
                exact this
              · have hce : c = chn N a l := by omega
                have := chn_out N l a (by omega)
                rw [← hce, e1, e2] at this
                rw [decide_eq_false hcl2]
                exact this
            have cF := fun s : Beh wr => follows_any b x y D N (nk N x) (nk N y) s.it (((hr.below hb).below hb2).below s.h) hxk hyk (hb0 _ (List.mem_of_getElem? hxk))
            rw [hT2] at cF
            have f0 := flat_at cD 1 cD_len row m _ hx 0 (by decide)
            have f1 := flat_at cD 1 cD_len row (m + 1) _ hy 0 (by decide)
            simp only [Nat.mul_one, Nat.add_zero] at f0 f1
            obtain ⟨gr, or, cur, e1, hgr, hcell⟩ := (((hR.below hb).below hb2)).at f0
            have c0 : ∀ s : Beh wr, s.it.cell? ⟨gr, or + m, none⟩ = some (.int .i64 (x : Int)) := fun s => (s.h.cell (p := ⟨gr, or + m, none⟩) (lt_heap hgr)).trans (hcell _ _ f0)
            have c1 : ∀ s : Beh wr, s.it.cell? ⟨gr, or + (m + 1), none⟩ = some (.int .i64 (y : Int)) := fun s => (s.h.cell (p := ⟨gr, or + (m + 1), none⟩) (lt_heap hgr)).trans (hcell _ _ f1)
            subst e1
            clear f0 f1 hcell hgr cur hx hy hxk hyk hT2 hxN hyN hT hR hP hr hin hb0 HY hget hal hm
            refine wp_region_beh (by kernel_rfl) (by kernel_rfl) ?_
            repeat (go_big_quiet_step ((go_at_call 53; exact Beh.call (cF _))))
            refine wpQuiet_nil ?_
            intro wq hw'
            have hwq := Beh.out hw'
            clear hw'
            go_wp2_with fail
            go_meet
            exact ⟨rfl, hwq⟩
          · have hd : decide ((m : Int) + 1 < (row.length : Int)) = false := decide_eq_false (by omega)
            have HTf : Hid (T = false) := by show _ = _; rw [hT.out, decide_eq_false (by omega)]
            clear hm hT
            refine wp_region_beh (by kernel_rfl) (by kernel_rfl) ?_
            repeat (go_big_quiet_step (fail))
            refine wpQuiet_nil ?_
            intro wq hw'
            have hwq := Beh.out hw'
            clear hw'
            go_wp2_with fail
            go_meet
            exact ⟨by rw [HTf.out], hwq⟩
        case rest =>
          obtain ⟨rfl, hwx⟩ := hcut
          have hb3 := chain hb2 hwx
          cases T with
          | true =>
            have hcl3 : c < chn N a l := of_decide_eq_true hT.out.symm
            clear hT
            have hwm : IntKind.i64.wrap ((m : Int) + 1 + 1) = (m : Int) + 1 + 1 := by have := Hm.out; rw [IntKind.wrap_i64]; omega
            go_wp2_with fail
            have hm := Hm.out
            exact ⟨⟨c + 1, by omega, by rw [show ((m : Int) + 1 + 1) = ((j + (c + 1) + 1 : Nat) : Int) by omega], hb3⟩, by simp [Go.RowKit.intOf]; omega⟩
          | false =>
            have hcl3 : c = chn N a l := by have := of_decide_eq_false hT.out.symm; omega
            have hm := Hm.out
            subst hcl3
            have hbW := chain hb hb3
            have hr3 := hr.below hbW
            have hR3 := hR.below hbW
            have hP3 := hP.below hbW
            have ho3 := own_below ho hb3
            obtain ⟨C, hC⟩ : ∃ C, C = (a :: l).take (chn N a l + 1) := ⟨_, rfl⟩
            have hCe : (row.take (m + 1)).drop j = C := by
              rw [hC, ← hal, List.drop_take, hm, show j + chn N a l + 1 - j = chn N a l + 1 by omega]
            have hC0 : C[0]? = some a := by rw [hC]; rfl
            have hja : row[j]? = some a := by
              have h9 : (row.drop j)[0]? = some a := by rw [hal]; rfl
              rw [List.getElem?_drop] at h9
              exact h9
            have haN := (hin a (List.mem_of_getElem? hja)).2
            have hak : N[a]? = some (nk N a) := by rw [nk, List.getD_eq_getElem?_getD, List.getElem?_eq_getElem haN]; rfl
            obtain ⟨gr, or, cur, e1, hgr, hcell⟩ := hR3.at (flat_at cD 1 cD_len row j _ hja 0 (by decide))
            subst e1
            have hcut := (Ln.cut hR3 j (m + 1) (by omega)).resolve_right (fun h => h ⟨rfl, by omega⟩)
            rw [hCe] at hcut
            have hCl : C.length = m + 1 - j := by rw [← hCe]; simp; omega
            have hCin : ∀ n ∈ C, n < P.length := fun n hn => (hin n (List.mem_of_mem_take (List.mem_of_mem_drop (by rw [hCe]; exact hn)))).1
            have cR := run_any b a D N (nk N a) C P _ _ _ hr3 hC0 hak hcut hP3 hCin (by omega)
            have HR : Hid ((((Y ++ [C]).map (rnO N P)).map cRn).flatten = (((Y.map (rnO N P)).map cRn).flatten ++ [.int .i64 (nk N a).1, .int .i64 (nk N a).2.1, .int .i64 (nk N a).2.2, .string (textR (C.map fun n => P.getD n 0)).1])) := by
              show _ = _
              rw [List.map_append, List.map_append, List.flatten_append]
              have : C.headD 0 = a := by rw [hC]; rfl
              simp only [rnO, cRn, this, List.map_cons, List.map_nil, List.flatten_cons, List.flatten_nil, List.append_nil]
            have HY2 : Hid ((Y ++ [C]) ++ chs N f (row.drop (m + 1)) = chs N row.length row) := by
              show _ = _
              rw [← HY.out, List.append_assoc, ← hC]
              congr 2
              rw [← hal, List.drop_drop, hm]
              rfl
            have hj1 : (j : Int) ≤ (m : Int) + 1 := by omega
            have hm2 : (m : Int) + 1 ≤ (cr : Int) := by omega
            have hm3 : m + 1 ≤ row.length := by omega
            clear HY hal hget hCe hC0 hja haN hak hcell hgr cur hcut hCin hR3 hP3 hr3 hm hT hC
            generalize (textR (C.map fun n => P.getD n 0)).1 = tt at *
            generalize ((Y.map (rnO N P)).map cRn).flatten = X at *
            generalize nk N a = k0 at *
            obtain ⟨au, ku, rfl⟩ := own_form ho3
            go_wp2_with (first | (refine cR.mono ?_; rintro e w4 ⟨rfl, hb4⟩; have ho4 := own_below ho3 hb4; have hb04 := hbW.size) | (at_builtin; refine wpList_append_own _ rfl (.tmp 35) (.tmp 43) 22 rfl w.heap.size 44 i0 (.agg #[.int .i64 0, .int .i64 0, .int .i64 0, .string ⟨#[]⟩]) 4 40 Tryd.underlying22 hi hz0 hz1 hz2 rfl (by decide) (.slice au Y.length ku) Y.length X rfl (ho4.alloc _) ⟨w4.heap.size, 0, none⟩ 1 1 [.int .i64 k0.1, .int .i64 k0.2.1, .int .i64 k0.2.2, .string tt] rfl rfl (World.news_of_block (heap_alloc_new w4 _)) (by simp [Value.oneCell']) (by unfold maxLen; omega) (by omega) (by have := (hbW.trans (hb4.mono hbW.size)).size; simp; omega) ?_; intro v6 w6 ho6 hg6 _))
            have hm := Hm.out
            have hb4W := chain hbW hb4
            have hb6 := (hb4W.alloc hb4W.size _).grown hg6 (by have := hb4W.size; simp; omega) (fun j hj => (ho4.lt j hj).1)
            exact ⟨⟨m + 1, f, Y ++ [C], hm3, by omega, rfl, HY2, by simp; omega, by rw [HR.out, List.length_append]; exact ho6, hb6⟩, by simp [Go.RowKit.intOf]; omega⟩
    · obtain rfl : j = row.length := by omega
      have e0 : Y = chs N row.length row := by
        have := HY.out
        rw [List.drop_length, chs_nil, List.append_nil] at this
        exact this
      obtain ⟨au, ku, rfl⟩ := own_form ho
      have e1 : Y.map (rnO N P) = rns N P row := by rw [e0]; rfl
      rw [e1, show Y.length = (rns N P row).length by rw [← e1, List.length_map]] at ho
      rw [show Y.length = (rns N P row).length by rw [← e1, List.length_map]]
      clear e0 e1 HY hYj
      go_wp2_with fail
      go_ret
      exact ⟨_, rfl, ho, hb⟩
end Go.Proofs.YtjimolafoihnpaaDoor.tc
