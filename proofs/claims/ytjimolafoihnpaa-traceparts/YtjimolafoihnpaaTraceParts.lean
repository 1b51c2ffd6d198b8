/-
  Proved: what has an order has one without some documents and atoms, in any order; and it agrees pair by pair (the law TraceParts), for inputs of bulk at most 1048576.
-/
import Derived.Test.YtjimolafoihnpaaTsJ
import Derived.Test.YtjimolafoihnpaaRows
import Derived.ChangeOld
namespace Go.Proofs.Ytjimolafoihnpaa.traceParts
open Go.ChangeShapes Go.WideShapes Go.ChangeAt Go.RowKit Go.PlainAid Go.Proofs.Ytjimolafoihnpaa.tc

/-- What is known of the parts that were taken. -/
structure Pt (W : World) (B : Nat) (u : Value) (L : List (List RunD)) (k : Nat) (M : List (List RunD)) (R : List Value) : Prop where
  own : W.ownsRow B 30 1 u M.length R
  nil : M = [] → u = .slice none 0 0
  rows : ∀ (j : Nat) (r : Value) (l : List RunD), R[j]? = some r → M[j]? = some l → W.ownsRow B 37 4 r l.length (l.map cRn).flatten
  one : ∀ r ∈ R, r.oneCell' = true
  sub : ∀ l' ∈ M, ∃ l ∈ L, l'.Sublist l
  sum : (M.map wL).sum ≤ ((L.take k).map wL).sum
  len : M.length ≤ k
theorem Pt.below {W W' : World} {B : Nat} {u : Value} {L : List (List RunD)} {k : Nat} {M : List (List RunD)} {R : List Value} (h : Pt W B u L k M R) (hb : Below W.heap.size W W') : Pt W' B u L k M R :=
  { h with own := tc.own_below h.own hb, rows := fun j r l a b => tc.own_below (h.rows j r l a b) hb }
theorem Pt.up {W : World} {B : Nat} {u : Value} {L : List (List RunD)} {M : List (List RunD)} {R : List Value} (h : Pt W B u L L.length M R) (hU : Up L) : Up M := by
  refine up_of (fun l' hl' r hr => ?_) (Nat.le_trans h.sum ?_)
  · obtain ⟨l, a, b⟩ := h.sub l' hl'
    exact hU.bd l a r (b.subset hr)
  · rw [List.take_length]; exact hU.tot
theorem last_two {α : Type} {R : List α} {r x : α} {j n : Nat} (hn : R.length = n) (h : (R ++ [x])[j]? = some r) : (j < n ∧ R[j]? = some r) ∨ (j = n ∧ r = x) := by
  by_cases hj : j < R.length
  · rw [List.getElem?_append_left hj] at h
    exact .inl ⟨by omega, h⟩
  · have hjn : j = n := by
      have := (List.getElem?_eq_some_iff.1 h).1
      simp at this
      omega
    subst hjn
    rw [List.getElem?_append_right (by omega), hn, Nat.sub_self] at h
    injection h with h
    exact .inr ⟨rfl, h.symm⟩
/-- One part more, behind. -/
theorem Pt.app {W W6 : World} {B k k' : Nat} {u v6 : Value} {L M : List (List RunD)} {R : List Value} {X l : List RunD} {a : Option Addr} {c : Nat} {o : Obj} (h : Pt W B u L k M R) (ho : W6.ownsRow B 30 1 v6 (M.length + 1) (R ++ [.slice a X.length c])) (hg : (W.alloc o).grownBy W6 u.ownBlock) (hX : W.ownsRow B 37 4 (.slice a X.length c) X.length (X.map cRn).flatten) (hl : l ∈ L) (hs : X.Sublist l) (hsum : ((L.take k).map wL).sum + wL X ≤ ((L.take k').map wL).sum) (hk : k + 1 ≤ k') :
    Pt W6 B v6 L k' (M ++ [X]) (R ++ [.slice a X.length c]) := by
  have s6 : Sm 37 W W6 := (Sm.below (alloc_b W o)).trans (Sm.own (h.own.alloc o) hg (by decide))
  have hRl : R.length = M.length := by have := h.own.1; omega
  refine ⟨by rw [List.length_append]; exact ho, fun q => by simp at q, fun j r x h1 h2 => ?_, fun r hr => ?_, fun x hx => ?_, ?_, ?_⟩
  · rcases last_two hRl h1 with ⟨j1, q1⟩ | ⟨rfl, rfl⟩
    · rw [List.getElem?_append_left j1] at h2
      exact own_sm (h.rows j r x q1 h2) s6
    · rw [List.getElem?_append_right (Nat.le_refl _), Nat.sub_self] at h2
      injection h2 with h2
      subst h2
      exact own_sm hX s6
  · rcases List.mem_append.1 hr with hr | hr
    · exact h.one r hr
    · obtain rfl := List.mem_singleton.1 hr
      rfl
  · rcases List.mem_append.1 hx with hx | hx
    · exact h.sub x hx
    · obtain rfl := List.mem_singleton.1 hx
      exact ⟨l, hl, hs⟩
  · have := h.sum
    rw [List.map_append, List.sum_append]
    show _ + (wL X + 0) ≤ _
    omega
  · have := h.len
    simp
    omega
/-- One part more, ahead. -/
theorem Pt.cons {W W6 : World} {B k k' : Nat} {u v6 : Value} {L M : List (List RunD)} {R : List Value} {X l : List RunD} {a : Option Addr} {c : Nat} (h : Pt W B u L k M R) (ho : W6.ownsRow B 30 1 v6 (1 + M.length) ([.slice a X.length c] ++ R)) (s6 : Sm 37 W W6) (hX : W.ownsRow B 37 4 (.slice a X.length c) X.length (X.map cRn).flatten) (hl : l ∈ L) (hs : X.Sublist l) (hsum : ((L.take k).map wL).sum + wL X ≤ ((L.take k').map wL).sum) (hk : k + 1 ≤ k') :
    Pt W6 B v6 L k' (X :: M) (.slice a X.length c :: R) := by
  refine ⟨by rw [List.length_cons, Nat.add_comm]; exact ho, fun q => by simp at q, fun j r x h1 h2 => ?_, fun r hr => ?_, fun x hx => ?_, ?_, ?_⟩
  · cases j with
    | zero =>
      injection h1 with h1
      injection h2 with h2
      subst h1 h2
      exact own_sm hX s6
    | succ j => exact own_sm (h.rows j r x (by simpa using h1) (by simpa using h2)) s6
  · rcases List.mem_cons.1 hr with rfl | hr
    · rfl
    · exact h.one r hr
  · rcases List.mem_cons.1 hx with rfl | hx
    · exact ⟨l, hl, hs⟩
    · exact h.sub x hx
  · have := h.sum
    rw [List.map_cons, List.sum_cons]
    omega
  · have := h.len
    rw [List.length_cons]
    omega
theorem sum_take1 {L : List (List RunD)} {k : Nat} (h : k < L.length) : ((L.take (k + 1)).map wL).sum = ((L.take k).map wL).sum + wL L[k] := by
  rw [List.take_succ_eq_append_getElem h, List.map_append, List.sum_append]
  rfl
set_option maxRecDepth 20000 in
set_option maxHeartbeats 1600000 in
theorem walk (v : Value) (L0 : List (List RunD)) (vz : Value) (Z : List Int) (w : World) (hr : RdL w v L0) (hU : Up L0) (hZ : RdZ w vz Z) (hZb : Z.length ≤ 1048576 ∧ ∀ z ∈ Z, InI z) :
    Calls Try.prog 4 #[v, vz] w fun e w' => e = .returned (.bool true) ∧ Below w.heap.size w w' := by
  have cS := some24_any v L0 w hr
  have hU' := hU.take 12
  obtain ⟨L, HL⟩ : ∃ L, L = L0.take 12 := ⟨_, rfl⟩
  rw [← HL] at cS hU'
  have hL12 : L.length ≤ 12 := by rw [HL, List.length_take]; omega
  clear HL hU
  obtain ⟨i0, hi, hz0, hz1, hz2⟩ := info_parts infoRun
  obtain ⟨i1, hi1, hy0, hy1, hy2⟩ := info_parts infoRR
  obtain ⟨av, kv, rfl, -⟩ := hr
  obtain ⟨az, kz, rfl, hkz, hzc⟩ := hZ
  go_enter Try.func4, Try.ntmps4
  go_wp2_with fail
  refine cS.mono ?_
  rintro e w1 ⟨u, rfl, r1, hb⟩
  obtain ⟨au, ku, rfl, -⟩ := id r1
  clear cS
  obtain ⟨F, sE, hM, hE1, hE2, hO⟩ := ord_is hU'
  have hNm : (nmA (aTs L)).length ≤ 1048576 := Nat.le_trans (nmA_len _) hU'.atoms
  have cO := order_any _ L F sE w1 r1 hU'.len hU'.row hU'.atoms hM (by omega) hE2
  obtain ⟨ok, hok⟩ : ∃ ok, (ordO (dcs L) (nmA (aTs L)) sE.row).isSome = ok := ⟨_, rfl⟩
  have HOk : Hid (ok = true ↔ OkL L) := by
    show _ ↔ _
    rw [← hok]
    rcases hO with ⟨h1, h2⟩ | ⟨P, -, -, -, h1, h2⟩
    · rw [h1]; simp [h2]
    · rw [h1]; simp [h2]
  rw [hok] at cO
  generalize (ordO (dcs L) (nmA (aTs L)) sE.row).getD [] = RO at *
  clear hM hE1 hE2 hO hok hNm
  go_wp2_with fail
  refine cO.mono ?_
  rintro e w2 ⟨uo, rfl, ho, q2⟩
  obtain ⟨ao, ko, rfl⟩ := own_form ho
  replace r1 := r1.below q2
  replace hb := chain hb q2
  clear cO ho q2
  go_wp2_with fail
  refine (check_any _ L w2 r1 hU'.len hU'.row hU'.atoms).mono ?_
  rintro e w3 ⟨a, b, fine, rfl, hc, q3⟩
  have HFi : Hid (fine = true ↔ FineL L) := chk_fine hc
  replace r1 := r1.below q3
  replace hb := chain hb q3
  clear hc q3
  have cL := live24_any w3
  have hcase : ok = false ∨ (ok = true ∧ fine = true) := by
    cases ok
    · exact .inl rfl
    · exact .inr ⟨rfl, HFi.out.2 (ok_fine (HOk.out.1 rfl))⟩
  go_upto_region 4 with fail
  go_cut [42] (fun t wx => t = .bool false ∧ Below w3.heap.size w3 wx)
  case first =>
    rcases hcase with rfl | ⟨rfl, rfl⟩
    · go_wp2_with (refine cL.mono ?_; rintro e w4 ⟨rfl, q4⟩)
      go_meet
      exact ⟨rfl, q4⟩
    · go_wp2_with (refine cL.mono ?_; rintro e w4 ⟨rfl, q4⟩)
      go_meet
      exact ⟨rfl, q4⟩
  case rest =>
    obtain ⟨rfl, hx4⟩ := hcut
    generalize wc = w4 at *
    have r4 := r1.below hx4
    have hb4 := chain hb hx4
    have hZ4 : RdZ w4 (.slice az Z.length kz) Z := RdZ.below ⟨az, kz, rfl, hkz, hzc⟩ hb4
    clear hcase cL hx4 r1 hb hzc
    go_wp2_with fail
    go_loopw [10, 11] (fun u iv wr => ∃ (k : Nat) (M : List (List RunD)) (R : List Value), k ≤ L.length ∧ iv = .int .i64 (k : Int) ∧ Pt wr w4.heap.size u L k M R ∧ Below w4.heap.size w4 wr) (fun _ iv _ => L.length - (Go.RowKit.intOf iv).toNat)
    case atStart => exact ⟨0, [], [], by omega, rfl, ⟨World.ownsRow_nil _ _ _ _, fun _ => rfl, fun j r l h => by simp at h, by simp, by simp, by simp, by simp⟩, Below.refl _ _⟩
    case round =>
      obtain ⟨k, M, R, hk, rfl, hP, hbr⟩ := hrel
      by_cases hlt : k < L.length
      · have hlt' : (k : Int) < (L.length : Int) := by omega
        go_upto_if 51 with fail
        go_cut [12] (fun t wx => ∃ n : Nat, n < 8 ∧ t = .int .i64 (n : Int) ∧ wx = wr)
        case first =>
          by_cases hzl : 0 < Z.length
          · have hzl' : (0 : Int) < (Z.length : Int) := by omega
            have hrm : (k : Int).tmod (Z.length : Int) = ((k % Z.length : Nat) : Int) := by rw [Int.tmod_eq_emod_of_nonneg (by omega)]; rfl
            have hkl : k % Z.length < Z.length := Nat.mod_lt _ hzl
            obtain ⟨z, hz⟩ : ∃ z, Z[k % Z.length]? = some z := ⟨_, List.getElem?_eq_getElem hkl⟩
            obtain ⟨_, _, e9, -, hzc⟩ := hZ4.below hbr
            injection e9 with e91 e92 e93
            subst e91 e93
            obtain ⟨bz, oz, rfl, -, cz⟩ := hzc _ z hz
            have cP := pick_any z wr (hZb.2 z (List.mem_of_getElem? hz))
            have hkl' : ((k % Z.length : Nat) : Int) < (Z.length : Int) := by omega
            have hne : ¬ ((Z.length : Int) = 0) := by omega
            generalize hkm : k % Z.length = q at *
            clear hkm hzc hZ4 hz
            go_wp2_with (refine cP.mono ?_; rintro e w5 ⟨n, hn, rfl, rfl⟩)
            go_meet
            exact ⟨n, hn, rfl, rfl⟩
          · have hzl' : (Z.length : Int) = 0 := by omega
            go_wp2_with fail
            go_meet
            exact ⟨0, by omega, rfl, rfl⟩
        case rest =>
          obtain ⟨n, hn8, rfl, rfl⟩ := hcut
          have hsum := sum_take1 hlt
          by_cases h7 : n = 7
          · subst h7
            go_wp2_with fail
            exact ⟨⟨k + 1, M, R, by omega, by go_num, { hP with sum := by have := hP.sum; omega, len := by have := hP.len; omega }, hbr⟩, by simp [Go.RowKit.intOf]; omega⟩
          · have h7' : ¬ (n : Int) = 7 := by omega
            have h7b : ((n : Int) == 7) = false := by simpa using h7'
            have hLk : L[k]? = some L[k] := List.getElem?_eq_getElem hlt
            obtain ⟨_, _, e9, -, hrc⟩ := r4.below hbr
            injection e9 with e91 e92 e93
            subst e91 e93
            obtain ⟨gd, od, ul, e8, hgd, cu, hrn⟩ := hrc k _ hLk
            subst e8
            obtain ⟨al, kl, rfl, -⟩ := id hrn
            have hLm : L[k] ∈ L := List.getElem_mem hlt
            have hll := (hU'.row _ hLm).1
            generalize L[k] = l at *
            clear hrc hLk
            go_wp2_with fail
            generalize wc = wa at *
            go_loopw [13, 14] (fun u' iv wr => ∃ (e : Nat) (X : List RunD), e ≤ l.length ∧ iv = .int .i64 (e : Int) ∧ X.Sublist (l.take e) ∧ wr.ownsRow wa.heap.size 37 4 u' X.length (X.map cRn).flatten ∧ Below wa.heap.size wa wr) (fun _ iv _ => l.length - (Go.RowKit.intOf iv).toNat)
            case atStart => exact ⟨0, [], by omega, rfl, by simp, World.ownsRow_nil _ _ _ _, Below.refl _ _⟩
            case round =>
              obtain ⟨e, X, he, rfl, hX, hoX, hbw⟩ := hrel
              have cu2 := (hbw.cell (p := ⟨gd, od + k, none⟩) hgd).trans cu
              by_cases hle : e < l.length
              · have hle' : (e : Int) < (l.length : Int) := by omega
                obtain ⟨br, or, e7, hbr7, d0, d1, d2, d3⟩ := rdn_at (hrn.below hbw) (i := e) (r := l[e]) (List.getElem?_eq_getElem hle)
                subst e7
                obtain ⟨T, HT⟩ : ∃ T : Bool, Hid (T = decide (n = 0 ∨ e % n ≠ 0)) := ⟨_, rfl⟩
                have hXl : X.length ≤ e := by have := hX.length_le; rw [List.length_take] at this; omega
                have htk : l.take (e + 1) = l.take e ++ [l[e]] := List.take_succ_eq_append_getElem hle
                go_upto_region 18 with fail
                go_cut [78] (fun t wx => t = .bool T ∧ wx = wr)
                case first =>
                  by_cases h0 : n = 0
                  · subst h0
                    have HX : Hid (T = true) := by show _ = _; rw [HT.out]; simp
                    clear HT
                    go_wp2_with fail
                    go_meet
                    exact ⟨by rw [HX.out], rfl⟩
                  · have h0' : ¬ (n : Int) = 0 := by omega
                    have h0b : ((n : Int) == 0) = false := by simpa using h0'
                    have hrm : (e : Int).tmod (n : Int) = ((e % n : Nat) : Int) := by rw [Int.tmod_eq_emod_of_nonneg (by omega)]; rfl
                    by_cases h1 : e % n = 0
                    · have HX : Hid (T = false) := by show _ = _; rw [HT.out]; simp [h0, h1]
                      rw [h1] at hrm
                      have hq : (((0 : Nat) : Int) != 0) = false := by simp
                      clear HT
                      go_wp2_with fail
                      go_meet
                      exact ⟨by rw [HX.out], rfl⟩
                    · have HX : Hid (T = true) := by show _ = _; rw [HT.out]; simp [h1]
                      have hq : (((e % n : Nat) : Int) != 0) = true := by simp; omega
                      generalize e % n = q at *
                      clear HT
                      go_wp2_with fail
                      go_meet
                      exact ⟨by rw [HX.out], rfl⟩
                case rest =>
                  obtain ⟨rfl, rfl⟩ := hcut
                  generalize wc = wr at *
                  cases T with
                  | true =>
                    obtain ⟨ax, kx, rfl⟩ := own_form hoX
                    have HR : Hid (((X ++ [l[e]]).map cRn).flatten = (X.map cRn).flatten ++ [.int .i64 l[e].c, .int .i64 l[e].q, .int .i64 l[e].f, .string l[e].t]) := by
                      show _ = _
                      rw [List.map_append, List.flatten_append]
                      rfl
                    have HS : Hid ((X ++ [l[e]]).Sublist (l.take (e + 1))) := by
                      show List.Sublist _ _
                      rw [htk]
                      exact hX.append_right _
                    have hbs := hbw.size
                    clear htk hX HT
                    generalize l[e] = r at *
                    go_wp2_with (at_builtin; refine wpList_append_own _ rfl (.tmp 79) (.tmp 87) 30 rfl wa.heap.size 37 i0 (.agg #[.int .i64 0, .int .i64 0, .int .i64 0, .string ⟨#[]⟩]) 4 40 Try.underlying30 hi hz0 hz1 hz2 rfl (by decide) (.slice ax X.length kx) X.length (X.map cRn).flatten rfl (hoX.alloc _) ⟨wr.heap.size, 0, none⟩ 1 1 [.int .i64 r.c, .int .i64 r.q, .int .i64 r.f, .string r.t] rfl rfl (World.news_of_block (heap_alloc_new wr _)) (by simp [Value.oneCell']) (by unfold maxLen; omega) (by omega) (by simp; omega) ?_; intro v6 w6 ho6 hg6 _)
                    have hb6 := (hbw.alloc hbs _).grown hg6 (by simp; omega) (fun j hj => (hoX.lt j hj).1)
                    exact ⟨⟨e + 1, X ++ [r], by omega, by go_num, HS.out, by rw [HR.out, List.length_append]; exact ho6, hb6⟩, by simp [Go.RowKit.intOf]; omega⟩
                  | false =>
                    obtain ⟨ax, kx, rfl⟩ := own_form hoX
                    go_wp2_with fail
                    exact ⟨⟨e + 1, X, by omega, by go_num, hX.trans (by rw [htk]; exact List.sublist_append_left _ _), hoX, hbw⟩, by simp [Go.RowKit.intOf]; omega⟩
              · obtain rfl : e = l.length := by omega
                rw [List.take_length] at hX
                have hw4 : w4.heap.size ≤ wa.heap.size := hbr.size
                have hoW := tc.own_mono hoX hw4
                have hP2 := hP.below hbw
                have hbW := chain hbr hbw
                have hwl := wL_sub hX
                have hMl := hP.len
                obtain ⟨ax, kx, rfl⟩ := own_form hoX
                obtain ⟨ap, kp, rfl⟩ := own_form hP2.own
                have hbs := hbW.size
                clear cu hrn hoX hP
                by_cases h2 : n % 2 = 0
                · have hrm : (n : Int).tmod 2 = 0 := by rw [Int.tmod_eq_emod_of_nonneg (by omega)]; omega
                  have hPo := hP2.own
                  go_wp2_with (at_builtin; refine wpList_append_own _ rfl (.tmp 92) (.tmp 94) 22 rfl w4.heap.size 30 i1 (.slice none 0 0) 1 24 Try.underlying22 hi1 hy0 hy1 hy2 rfl (by decide) (.slice ap M.length kp) M.length R rfl (hPo.alloc _) ⟨wr.heap.size, 0, none⟩ 1 1 [.slice ax X.length kx] rfl rfl (World.news_of_block (heap_alloc_new wr _)) (by simp [Value.oneCell']) (by unfold maxLen; omega) (by omega) (by simp; omega) ?_; intro v6 w6 ho6 hg6 _)
                  have hb6 := (hbW.alloc hbs _).grown hg6 (by simp; omega) (fun j hj => (hPo.lt j hj).1)
                  have hP6 := hP2.app (l := l) (k' := k + 1) ho6 hg6 hoW hLm hX (by omega) (by omega)
                  exact ⟨⟨k + 1, M ++ [X], R ++ [.slice ax X.length kx], by omega, by go_num, hP6, hb6⟩, by simp [Go.RowKit.intOf]; omega⟩
                · have hrm : (n : Int).tmod 2 = 1 := by rw [Int.tmod_eq_emod_of_nonneg (by omega)]; omega
                  have hf1 : (wr.alloc (.cells #[.slice ax X.length kx] 30)).ownsRow w4.heap.size 30 1 (.slice (some ⟨wr.heap.size, 0, none⟩) 1 1) 1 [.slice ax X.length kx] := World.ownsRow_lit wr #[.slice ax X.length kx] 1 hbs (by decide) rfl
                  by_cases hM0 : M = []
                  · subst hM0
                    have hnil := hP2.nil rfl
                    injection hnil with hn1 hn2 hn3
                    subst hn1 hn3
                    have hap := fun ty => run_append_owned_none (P := Try.prog) (w := wr.alloc (.cells #[.slice ax X.length kx] 30)) w4.heap.size 22 ty 30 i1 1 Try.underlying22 hi1 (.slice (some ⟨wr.heap.size, 0, none⟩) 1 1) 1 _ hf1
                    have hR0 : R = [] := List.length_eq_zero_iff.1 (by have := hP2.own.1; simpa using this)
                    subst hR0
                    go_wp2_with fail
                    have hP6 := hP2.cons (l := l) (k' := k + 1) (by simpa using hf1) (Sm.below (alloc_b wr _)) hoW hLm hX (by omega) (by omega)
                    exact ⟨⟨k + 1, [X], [.slice ax X.length kx], by omega, by go_num, hP6, hbW.alloc hbs _⟩, by simp [Go.RowKit.intOf]; omega⟩
                  · have hMp : 0 < M.length := List.length_pos_iff.2 hM0
                    obtain ⟨gp, kp2, epp, hgp, hgp2⟩ := hP2.own.form hMp
                    injection epp with ep1 ep2 ep3
                    subst ep1 ep3
                    have hPo := hP2.own
                    have hRl : R.length = M.length := by have := hPo.1; omega
                    have hcel : ∀ (j : Nat) (u : Value), R[j]? = some u → (wr.alloc (.cells #[.slice ax X.length kx] 30)).cell? ((⟨gp, 0, none⟩ : Addr).add j) = some u := fun j u hj => (hPo.alloc _).cells (g := gp) rfl j u hj
                    have h1c := hP2.one
                    go_wp2_with (at_builtin; refine wpList_append_own _ rfl (.tmp 98) (.tmp 99) 22 rfl w4.heap.size 30 i1 (.slice none 0 0) 1 24 Try.underlying22 hi1 hy0 hy1 hy2 rfl (by decide) (.slice (some ⟨wr.heap.size, 0, none⟩) 1 1) 1 [.slice ax X.length kx] rfl hf1 ⟨gp, 0, none⟩ M.length kp R rfl (by rw [hRl, Nat.mul_one]) hcel h1c (by unfold maxLen; omega) (by omega) (by simp; omega) ?_; intro v6 w6 ho6 hg6 _)
                    have hb6 := (hbW.alloc hbs _).grown hg6 (by simp; omega) (fun j hj => (hf1.lt j hj).1)
                    have hP6 := hP2.cons (l := l) (k' := k + 1) ho6 ((Sm.below (alloc_b wr _)).trans (Sm.own hf1 hg6 (by decide))) hoW hLm hX (by omega) (by omega)
                    exact ⟨⟨k + 1, X :: M, .slice ax X.length kx :: R, by omega, by go_num, hP6, hb6⟩, by simp [Go.RowKit.intOf]; omega⟩
      · obtain rfl : k = L.length := by omega
        have hUM := hP.up hU'
        have hrM := rdl_own hP.own hP.rows
        have hsub : ∀ l' ∈ M, ∃ l ∈ L, (aT l').Sublist (aT l) := fun l' hl' => by
          obtain ⟨l, a1, a2⟩ := hP.sub l' hl'
          exact ⟨l, a1, aT_sub a2⟩
        have hb5 := chain hb4 hbr
        obtain ⟨am, km, rfl, -⟩ := id hrM
        obtain ⟨F2, sE2, hM2, hE21, hE22, hO2⟩ := ord_is hUM
        have hNm2 : (nmA (aTs M)).length ≤ 1048576 := Nat.le_trans (nmA_len _) hUM.atoms
        have cO := order_any _ M F2 sE2 wr hrM hUM.len hUM.row hUM.atoms hM2 (by omega) hE22
        obtain ⟨less, hless⟩ : ∃ less, (ordO (dcs M) (nmA (aTs M)) sE2.row).isSome = less := ⟨_, rfl⟩
        have HL : Hid (ok = true → less = true) := by
          show _ → _
          intro h9
          have h8 := ok_part hsub (HOk.out.1 h9)
          rw [← hless]
          rcases hO2 with ⟨-, h2⟩ | ⟨P, -, -, -, h1, -⟩
          · exact absurd h8 h2
          · rw [h1]; rfl
        rw [hless] at cO
        generalize (ordO (dcs M) (nmA (aTs M)) sE2.row).getD [] = RO2 at *
        clear hP hbr r4 hZ4 hb4 hM2 hE21 hE22 hO2 hless hNm2
        go_wp2_with fail
        refine cO.mono ?_
        rintro e w6 ⟨uo, rfl, ho, q2⟩
        obtain ⟨ao2, ko2, rfl⟩ := own_form ho
        have hrM6 := hrM.below q2
        have hb6 := chain hb5 q2
        clear cO ho q2 hrM
        go_wp2_with fail
        refine (check_any _ M w6 hrM6 hUM.len hUM.row hUM.atoms).mono ?_
        rintro e w7 ⟨a2, b2, alike, rfl, hc, q3⟩
        have HA : Hid (fine = true → alike = true) := fun h9 => (chk_fine hc).2 (fine_part hsub (HFi.out.1 h9))
        have hb7 := chain hb6 q3
        have h4 : (ok = false ∨ (ok = true ∧ less = true)) ∧ (fine = false ∨ (fine = true ∧ alike = true)) := by
          constructor
          · cases ok
            · exact .inl rfl
            · exact .inr ⟨rfl, HL.out rfl⟩
          · cases fine
            · exact .inl rfl
            · exact .inr ⟨rfl, HA.out rfl⟩
        clear hc q3 HL HA HOk HFi hrM6 hb5 hb6
        rcases h4 with ⟨rfl | ⟨rfl, rfl⟩, rfl | ⟨rfl, rfl⟩⟩
        all_goals
          go_wp2_with fail
          go_ret
          exact ⟨rfl, hb7⟩

theorem own : ownKnob Try.prog.godebug = none := by kernel_rfl
theorem laidOut : laidOutB Try.prog = true := by kernel_rfl

set_option maxRecDepth 20000 in
theorem contract (H : Type) (enc : TypeId × Value → H) (W : World) (base : Nat) (args : Array Value) (ds gs : List (DataW H)) (before : List MemPlace)
    (hval : ∀ (j : Nat) t v, Try.f4.params[j]? = some t → args[j]? = some v → Value.okWide Try.prog W .any base t v)
    (hW : DataW.Whole enc Try.prog Try.f4.params.toList Rows.tracePartsSpec.vars false W args.toList ds gs before) (hk : Rows.uptoSmall H (ds ++ gs) = true) :
    Calls Try.prog 4 args W fun e W' => ∃ v, e = .returned v ∧ Rows.tracePartsSpec.post enc Try.prog Try.f4 false true false false W args v W' := by
  have hW' := hW
  obtain ⟨p, q, hA0, hV, rfl, hfz, hnd⟩ := hW
  have hA : DataW.TrodAll enc Try.prog W 0 (fun _ => true) true Try.f4.params.toList args.toList ds p := hA0
  rw [Try.params4] at hA hval
  obtain ⟨v0, vs0, d0, ds0, p0, q0, hargs, rfl, rfl, h0, r0⟩ := trodAll_cons hA
  obtain ⟨v1, vs1, d1, ds1, p1, q1, rfl, rfl, rfl, h1, r1⟩ := trodAll_cons r0
  obtain ⟨rfl, rfl, rfl⟩ := trodAll_nil r1
  obtain rfl : args = #[v0, v1] := by cases args; simp_all
  obtain ⟨rfl, rfl⟩ := trodVars_none hV
  have k0 := h0
  have lt0 : ∀ x ∈ p0, x.block < W.heap.size := by obtain ⟨m, hm⟩ := k0; exact DataW.trod_lt m _ _ _ hm
  have k1 := h1
  have lt1 : ∀ x ∈ p1, x.block < W.heap.size := by obtain ⟨m, hm⟩ := k1; exact DataW.trod_lt m _ _ _ hm
  have b0 : Rows.uptoBulk d0 ≤ 1048576 := up_mem hk (by simp)
  have b1 : Rows.uptoBulk d1 ≤ 1048576 := up_mem hk (by simp)
  obtain ⟨a0, len0, cap0, rfl⟩ := okWide_slice Try.underlying22 (hval 0 22 v0 rfl rfl)
  obtain ⟨fuel0, hf0⟩ := h0
  obtain ⟨l0, rd0, ok0⟩ := open_rru (v := .slice a0 len0 cap0) hf0 b0
  obtain ⟨a1, len1, cap1, rfl⟩ := okWide_slice Try.underlying29 (hval 1 29 v1 rfl rfl)
  obtain ⟨fuel1, hf1⟩ := h1
  obtain ⟨l1, rd1, ok1⟩ := open_isu (v := .slice a1 len1 cap1) hf1 b1
  clear hA0
  simp only [List.append_nil] at hW' hk
  refine (walk (.slice a0 len0 cap0) l0 (.slice a1 len1 cap1) l1 W rd0 ok0 rd1 ok1).mono fun e W' ⟨he, bel⟩ => ?_
  subst he
  exact ⟨_, rfl, _, _, _, [], _, [], hW', trodAll_mk1 (shut_bool Try.underlying4 _), (trodAll_cons_mk (Below.trod laidOut (by kernel_rfl) (of_decide_eq_true (by kernel_rfl)) k0 bel lt0) (trodAll_cons_mk (Below.trod laidOut (by kernel_rfl) (of_decide_eq_true (by kernel_rfl)) k1 bel lt1) trodAll_mk0)), rfl, bel.frame _, fun h => by cases h⟩

set_option maxRecDepth 100000 in
theorem lifted (os : Os) (started : os.Started) (H : Type) (enc : TypeId × Value → H) (F : Stop.Interp) :
    ReturnsInHanded {} Try.checked os 4 .any ((Rows.OpenSpec.upto Rows.tracePartsSpec).pre6 enc Try.prog Try.f4 Rows.tracePartsUptoRow.domain false) (((Rows.OpenSpec.upto Rows.tracePartsSpec).at F).post enc Try.prog Try.f4 false true false false) := by
  refine returnsInHanded_of_cond (C := Try.checked) (s := Rows.OpenSpec.upto Rows.tracePartsSpec) (k := Rows.uptoSmall) rfl own started (by kernel_rfl) Try.func4
    (OpenSpec.witness (enc := enc) (C := Try.checked) (s := Rows.OpenSpec.upto Rows.tracePartsSpec) (k := Rows.uptoSmall) rfl false ⟨#[], #[.slice none 0 0, .slice none 0 0], []⟩ 8 (by kernel_rfl) (by kernel_rfl) (by kernel_rfl)
      (x := ([.nil, .nil], [], [])) (by kernel_rfl) rfl (by kernel_rfl)) ?_
  intro W base args ds gs before hval hW _ hk _
  exact contract H enc W base args ds gs before hval hW hk

theorem holds : Rows.TracePartsUptoSaid :=
  OpenClaim.holds_of_cond 4 Try.f4 rfl rfl rfl rfl rfl rfl rfl ⟨rfl, rfl, rfl, rfl, rfl⟩ rfl rfl rfl rfl rfl (by kernel_rfl) Try.func4 (by kernel_rfl)
    (of_decide_eq_true (by kernel_rfl)) (by unfold Func.isWrapper; first | (rw [if_pos (by decide +kernel)]; kernel_rfl) | (rw [if_neg (by decide +kernel)]; exact ⟨rfl, rfl⟩))
    (fun os started H enc _ F => lifted os started H enc F)
end Go.Proofs.Ytjimolafoihnpaa.traceParts
namespace Go.Proofs.Ytjimolafoihnpaa
theorem traceParts_holds : Rows.TracePartsUptoSaid := traceParts.holds
#print axioms traceParts_holds
end Go.Proofs.Ytjimolafoihnpaa
