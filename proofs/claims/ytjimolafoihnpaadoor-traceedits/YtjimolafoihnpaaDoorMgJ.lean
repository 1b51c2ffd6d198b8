/-
  The contracts of next and runsOf: what runsOf makes of atoms are the runs that must stand.
-/
import Derived.Test.YtjimolafoihnpaaDoorMgH
import Derived.Test.YtjimolafoihnpaaDoorDqG
namespace Go.Proofs.YtjimolafoihnpaaDoor
open Go.ChangeShapes Go.WideShapes Go.ChangeAt Go.RowKit Go.PlainAid

/-- Does y go on x? -/
def flw (x y : Atm) : Bool := decide (y.c = x.c) && decide (y.q = x.q) && decide (y.n = x.n + 1)
theorem flw_iff {x y : Atm} : flw x y = true ↔ y.c = x.c ∧ y.q = x.q ∧ y.n = x.n + 1 := by simp [flw, and_assoc]
/-- Atoms that go on one another are those of one run. -/
theorem atG_flw : ∀ (l : List Atm) (x : Atm), (∀ j a b, (x :: l)[j]? = some a → (x :: l)[j + 1]? = some b → flw a b = true) → x :: l = atG x.c x.q x.n ((x :: l).map Atm.z)
  | [], x, _ => by simp [atG]
  | y :: l, x, h => by
    have h0 := flw_iff.1 (h 0 x y rfl rfl)
    have ih := atG_flw l y (fun j a b ha hb => h (j + 1) a b (by simpa using ha) (by simpa using hb))
    rw [h0.1, h0.2.1, h0.2.2] at ih
    rw [List.map_cons, atG, ← ih]
theorem rn_first {R : List Atm} {n : Nat} {x : Atm} (hz : ∀ u ∈ R, szI u.z ≠ 0) (hx : R[0]? = some x) (h1 : 1 ≤ n) (hn : n ≤ R.length) (hc : ∀ j a b, j + 1 < n → R[j]? = some a → R[j + 1]? = some b → flw a b = true) (he : ∀ a b, R[n - 1]? = some a → R[n]? = some b → flw a b = false) :
    rnA R = ⟨x.c, x.q, x.n, mk (txU (R.take n))⟩ :: rnA (R.drop n) := by
  obtain ⟨l, rfl⟩ : ∃ l, R = x :: l := by
    cases R with
    | nil => simp at hx
    | cons y l => simp at hx; subst hx; exact ⟨l, rfl⟩
  obtain ⟨m, rfl⟩ : ∃ m, n = m + 1 := ⟨n - 1, by omega⟩
  have htk : (x :: l).take (m + 1) = x :: l.take m := by simp
  have hg := atG_flw (l.take m) x (fun j a b ha hb => by
    rw [← htk] at ha hb
    have hj : j + 1 < m + 1 := by
      have := (List.getElem?_eq_some_iff.1 hb).1
      simp at this
      omega
    rw [List.getElem?_take_of_lt (by omega)] at ha hb
    exact hc j a b hj ha hb)
  have hzt : ∀ z ∈ ((x :: l).take (m + 1)).map Atm.z, szI z ≠ 0 := fun z hz' => by
    obtain ⟨u, hu, rfl⟩ := List.mem_map.1 hz'
    exact hz u (List.mem_of_mem_take hu)
  obtain ⟨e1, e2⟩ := cpl_enc hzt
  have hzd : ∀ u ∈ (x :: l).drop (m + 1), szI u.z ≠ 0 := fun u hu => hz u (List.mem_of_mem_drop hu)
  obtain ⟨c1, c2⟩ := rnA_can hz
  obtain ⟨d1, d2⟩ := rnA_can hzd
  have hat : (⟨x.c, x.q, x.n, mk (txU ((x :: l).take (m + 1)))⟩ : RunD).ats = (x :: l).take (m + 1) := by
    unfold RunD.ats
    simp only
    unfold txU
    rw [e2, htk]
    exact hg.symm
  have hcp : cpl (mk (txU ((x :: l).take (m + 1)))) = ((m + 1 : Nat) : Int) := by
    unfold txU
    rw [e1, List.length_map, List.length_take]
    congr 1
    omega
  refine can_inj c1 ?_ ?_
  · have hok : (⟨x.c, x.q, x.n, mk (txU ((x :: l).take (m + 1)))⟩ : RunD).Ok := by
      unfold RunD.Ok
      simp only
      rw [hcp]
      omega
    cases hr : rnA ((x :: l).drop (m + 1)) with
    | nil => exact hok
    | cons b t =>
      rw [hr] at d1 d2
      refine ⟨hok, ?_, d1⟩
      have hb := pts_pos d1.head
      have hfst : ∃ y, ((x :: l).drop (m + 1))[0]? = some y ∧ y.c = b.c ∧ y.q = b.q ∧ y.n = b.f := by
        rw [← d2, ats_cons, RunD.ats]
        cases hp : pts b.t with
        | nil => rw [hp] at hb; simp at hb
        | cons z zs => exact ⟨⟨b.c, b.q, b.f, z⟩, by simp [atG], rfl, rfl, rfl⟩
      obtain ⟨y, hy, y1, y2, y3⟩ := hfst
      rw [List.getElem?_drop, Nat.add_zero] at hy
      obtain ⟨p, hp⟩ : ∃ p, (x :: l)[m]? = some p := ⟨(x :: l)[m]'(by omega), List.getElem?_eq_getElem (by omega)⟩
      have hpn : p.c = x.c ∧ p.q = x.q ∧ p.n = x.n + (m : Int) := by
        have : ((x :: l).take (m + 1))[m]? = some p := by rw [List.getElem?_take_of_lt (by omega)]; exact hp
        rw [htk, hg] at this
        have hm : m < ((x :: l.take m).map Atm.z).length := by
          rw [← htk, List.length_map, List.length_take]; omega
        rw [atG_at x.c x.q _ x.n m (((x :: l.take m).map Atm.z)[m]) (List.getElem?_eq_getElem hm)] at this
        injection this with this
        rw [← this]
        exact ⟨rfl, rfl, rfl⟩
      have hf := he p y (by simpa using hp) hy
      rw [nxR_no]
      simp only
      rw [hcp]
      intro ⟨k1, k2, k3⟩
      rw [Bool.eq_false_iff] at hf
      exact hf (flw_iff.2 ⟨by rw [y1, hpn.1]; exact k1, by rw [y2, hpn.2.1]; exact k2, by rw [y3, hpn.2.2, k3]; omega⟩)
  · rw [c2, ats_cons, hat, d2, List.take_append_drop]

theorem Tryd.sizeAt : (Tryd.prog.info? 134).map (·.size) = some 3 := by kernel_rfl
set_option maxRecDepth 20000 in
set_option maxHeartbeats 1000000 in
theorem mnext_any (c q n : Int) (w : World) (h0 : 0 ≤ n) (h1 : n ≤ 1000000) :
    Calls Tryd.prog 70 #[.agg #[.int .i64 c, .int .i64 q, .int .i64 n]] w fun e w' => e = .returned (.agg #[.int .i64 c, .int .i64 q, .int .i64 (n + 1)]) ∧ Below w.heap.size w w' := by
  have hb : Below w.heap.size w ((w.alloc (.cells #[.int .i64 c, .int .i64 q, .int .i64 n] 134)).alloc (.cells #[.int .i64 c, .int .i64 q, .int .i64 (n + 1)] 134)) := ((Below.refl _ w).alloc (Nat.le_refl _) _).alloc (by simp) _
  have hn := heap_alloc_new (w.alloc (.cells #[.int .i64 c, .int .i64 q, .int .i64 n] 134)) (.cells #[.int .i64 c, .int .i64 q, .int .i64 (n + 1)] 134)
  rw [World.size_alloc] at hn
  have hw : IntKind.i64.wrap (n + 1) = n + 1 := by rw [IntKind.wrap_i64]; omega
  go_enter Tryd.func70, Tryd.ntmps70
  go_wp2_with fail
  refine bodyPost_ret (results_cell_row rfl _ _ (w.heap.size + 1) 134 _ (0, 0) _ rfl hn Tryd.underlying134 rfl Tryd.sizeAt) rfl ?_
  exact ⟨rfl, hb⟩

def lenU : Value → Nat
  | .slice _ n _ => n
  | _ => 0
set_option maxRecDepth 20000 in
theorem head_units {ao : Option Addr} {n cp : Nat} (hcp : n ≤ cp) (hi : Nat) (h2 : hi ≤ n) (W : World) :
    (Instr.slice 82 (.slice ao n cp) none (some (.int .i64 (hi : Int))) none).run Tryd.prog W = .ok (sliced ao 0 hi cp 4) W := by
  have e : Tryd.prog.elem 82 = 136 := by kernel_rfl
  rw [run_slice_h (P := Tryd.prog) W 82 ao n cp Tryd.underlying82 .i64 (hi : Int) (by omega) (by omega), e, sizeUnit]
  simp only [Result.andThen, Int.toNat_natCast]
theorem rnA_len {A : List Atm} (hz : ∀ x ∈ A, szI x.z ≠ 0) : (rnA A).length ≤ A.length := by
  have hc := rnA_can hz
  have hb := tx_bound (rnA A) hc.1.all
  rw [kysL_ats hc.1.all, List.length_map, hc.2] at hb
  exact hb.2

set_option maxRecDepth 20000 in
set_option maxHeartbeats 2000000 in
theorem runsOf_any (v : Value) (A : List Atm) (w : World) (hr : RdK w v A) (hz : ∀ x ∈ A, szI x.z ≠ 0) (hn : ∀ x ∈ A, 0 ≤ x.n ∧ x.n ≤ 1000000) (hl : A.length ≤ 100000) :
    Calls Tryd.prog 42 #[v] w fun e w' => ∃ u, e = .returned u ∧ w'.ownsRow w.heap.size 44 4 u (rnA A).length (rcs (rnA A)) ∧ Below w.heap.size w w' := by
  obtain ⟨i0, hi0, hz0, hz1, hz2⟩ := info_parts Tryd.infoRun
  obtain ⟨ao0, cp0, hv, -⟩ := id hr
  subst hv
  go_enter Tryd.func42, Tryd.ntmps42
  go_wp2_with fail
  go_loopw [0, 3] (fun a u wr => ∃ (R : List Atm) (L : List RunD), RdK w a R ∧ (∀ x ∈ R, x ∈ A) ∧ R.length ≤ A.length ∧ Hid (L ++ rnA R = rnA A) ∧ wr.ownsRow w.heap.size 44 4 u L.length (rcs L) ∧ Below w.heap.size w wr) (fun a _ _ => lenU a)
  case atStart => exact ⟨A, [], hr, fun x hx => hx, Nat.le_refl _, by show _ = _; simp, World.ownsRow_nil _ _ _ _, Below.refl _ _⟩
  case round =>
    obtain ⟨R, L, hR, hsub, hRl, hL, ho, hb⟩ := hrel
    clear hr
    obtain ⟨ao, cp, hv, hcp, -⟩ := id hR
    subst hv
    obtain ⟨aL, kL', rfl⟩ := own_form ho
    have zR : ∀ x ∈ R, szI x.z ≠ 0 := fun x hx => hz x (hsub x hx)
    have nR : ∀ x ∈ R, 0 ≤ x.n ∧ x.n ≤ 1000000 := fun x hx => hn x (hsub x hx)
    have hLl : L.length ≤ 100000 := by
      have h1 := congrArg List.length hL.out
      have h2 := rnA_len hz
      simp only [List.length_append] at h1
      omega
    by_cases h0 : 0 < R.length
    · have h0' : 0 < (R.length : Int) := by omega
      obtain ⟨x, hx⟩ : ∃ x, R[0]? = some x := ⟨R[0], by simp [h0]⟩
      obtain ⟨ba, oa, rfl, hba, -⟩ := rdk_at hR hx
      go_wp2_with fail
      obtain ⟨wo, rfl⟩ : ∃ z, z = wr := ⟨_, rfl⟩
      go_loopw [4] (fun i wr => ∃ n : Nat, 1 ≤ n ∧ n ≤ R.length ∧ i = .int .i64 (n : Int) ∧ Hid (∀ (j : Nat) (a b : Atm), j + 1 < n → R[j]? = some a → R[j + 1]? = some b → flw a b = true) ∧ Below wo.heap.size wo wr) (fun i _ => R.length - (Go.RowKit.intOf i).toNat)
      case atStart => exact ⟨1, Nat.le_refl _, by omega, rfl, fun j a b h => by omega, Below.refl _ _⟩
      case round =>
        obtain ⟨n, hn1, hnR, rfl, hfl, hbn⟩ := hrel
        obtain ⟨m, rfl⟩ : ∃ m, n = m + 1 := ⟨n - 1, by omega⟩
        have hml : (m : Int) < (R.length : Int) := by omega
        obtain ⟨p, hp⟩ : ∃ p, R[m]? = some p := ⟨R[m], by simp [show m < R.length by omega]⟩
        have hpn := nR p (List.mem_of_getElem? hp)
        have hB := chain hb hbn
        obtain ⟨D, HDd⟩ : ∃ D : Bool, Hid (D = (match R[m + 1]? with | some y => flw p y | none => false)) := ⟨_, rfl⟩
        have HT : Hid (D = true → m + 1 < R.length ∧ ∀ (j : Nat) (a b : Atm), j + 1 < m + 1 + 1 → R[j]? = some a → R[j + 1]? = some b → flw a b = true) := fun hD => by
          have hd := HDd.out
          rw [hD] at hd
          cases hy : R[m + 1]? with
          | none => rw [hy] at hd; cases hd
          | some y =>
            rw [hy] at hd
            refine ⟨(List.getElem?_eq_some_iff.1 hy).1, fun j a b hj ha hb' => ?_⟩
            by_cases e : j = m
            · subst e
              rw [hp] at ha
              rw [hy] at hb'
              cases ha
              cases hb'
              exact hd.symm
            · exact hfl.out j a b (by omega) ha hb'
        have HE : Hid (D = false → rnA R = ⟨x.c, x.q, x.n, mk (txU (R.take (m + 1)))⟩ :: rnA (R.drop (m + 1))) := fun hD => rn_first zR hx (by omega) (by omega) (fun j a b hj ha hb' => hfl.out j a b hj ha hb') (fun a b ha hb' => by
          have hd := HDd.out
          rw [hD, hb'] at hd
          rw [Nat.add_sub_cancel, hp] at ha
          cases ha
          exact hd.symm)
        clear hfl
        go_upto_region 4 with fail
        go_cut [26] (fun t wx => t = .bool D ∧ Below wr.heap.size wr wx)
        case first =>
          have cN := fun W => mnext_any p.c p.q p.n W hpn.1 hpn.2
          by_cases hlt : m + 1 < R.length
          · have hlt' : ((m + 1 : Nat) : Int) < (R.length : Int) := by omega
            have hlt'' : (m : Int) + 1 < (R.length : Int) := by omega
            obtain ⟨y, hy⟩ : ∃ y, R[m + 1]? = some y := ⟨R[m + 1], by simp [hlt]⟩
            have hP := fun s : Beh wr => rdk_at (hR.below (chain hB s.h)) hp
            have hY := fun s : Beh wr => rdk_at (hR.below (chain hB s.h)) hy
            have p0 : ∀ s : Beh wr, s.it.cell? ⟨ba, oa + m * 4, none⟩ = some (.int .i64 p.c) := fun s => by obtain ⟨_, _, e, -, g, -⟩ := hP s; cases e; exact g
            have p1 : ∀ s : Beh wr, s.it.cell? ⟨ba, oa + m * 4 + 1, none⟩ = some (.int .i64 p.q) := fun s => by obtain ⟨_, _, e, -, -, g, -⟩ := hP s; cases e; exact g
            have p2 : ∀ s : Beh wr, s.it.cell? ⟨ba, oa + m * 4 + 2, none⟩ = some (.int .i64 p.n) := fun s => by obtain ⟨_, _, e, -, -, -, g, -⟩ := hP s; cases e; exact g
            have y0 : ∀ s : Beh wr, s.it.cell? ⟨ba, oa + (m + 1) * 4, none⟩ = some (.int .i64 y.c) := fun s => by obtain ⟨_, _, e, -, g, -⟩ := hY s; cases e; exact g
            have y1 : ∀ s : Beh wr, s.it.cell? ⟨ba, oa + (m + 1) * 4 + 1, none⟩ = some (.int .i64 y.q) := fun s => by obtain ⟨_, _, e, -, -, g, -⟩ := hY s; cases e; exact g
            have y2 : ∀ s : Beh wr, s.it.cell? ⟨ba, oa + (m + 1) * 4 + 2, none⟩ = some (.int .i64 y.n) := fun s => by obtain ⟨_, _, e, -, -, -, g, -⟩ := hY s; cases e; exact g
            have HDy : Hid (D = flw p y) := by show _ = _; rw [HDd.out, hy]
            clear hP hY HT HE HDd hlt
            by_cases t1 : y.c = p.c
            · have t1' : (y.c == p.c) = true := by simp [t1]
              by_cases t2 : y.q = p.q
              · have t2' : (y.q == p.q) = true := by simp [t2]
                by_cases t3 : y.n = p.n + 1
                · have t3' : (y.n == p.n + 1) = true := by simp [t3]
                  have HD : Hid (D = true) := by show _ = _; rw [HDy.out, flw_iff]; exact ⟨t1, t2, t3⟩
                  clear t1 t2 t3 hy hp HDy
                  refine wp_region_beh (by kernel_rfl) (by kernel_rfl) ?_
                  repeat (go_big_quiet_step ((go_at_call 70; exact Beh.call (cN _))))
                  refine wpQuiet_nil ?_
                  intro wq hw'
                  have hwq := Beh.out hw'
                  clear hw'
                  go_wp2_with fail
                  go_meet
                  exact ⟨by rw [HD.out], hwq⟩
                · have t3' : (y.n == p.n + 1) = false := by simp [t3]
                  have HD : Hid (D = false) := by show _ = _; rw [HDy.out]; simp [flw, t3]
                  clear t1 t2 t3 hy hp HDy
                  refine wp_region_beh (by kernel_rfl) (by kernel_rfl) ?_
                  repeat (go_big_quiet_step ((go_at_call 70; exact Beh.call (cN _))))
                  refine wpQuiet_nil ?_
                  intro wq hw'
                  have hwq := Beh.out hw'
                  clear hw'
                  go_wp2_with fail
                  go_meet
                  exact ⟨by rw [HD.out], hwq⟩
              · have t2' : (y.q == p.q) = false := by simp [t2]
                have HD : Hid (D = false) := by show _ = _; rw [HDy.out]; simp [flw, t2]
                clear t1 t2 hy hp HDy
                refine wp_region_beh (by kernel_rfl) (by kernel_rfl) ?_
                repeat (go_big_quiet_step ((go_at_call 70; exact Beh.call (cN _))))
                refine wpQuiet_nil ?_
                intro wq hw'
                have hwq := Beh.out hw'
                clear hw'
                go_wp2_with fail
                go_meet
                exact ⟨by rw [HD.out], hwq⟩
            · have t1' : (y.c == p.c) = false := by simp [t1]
              have HD : Hid (D = false) := by show _ = _; rw [HDy.out]; simp [flw, t1]
              clear t1 hy hp HDy
              refine wp_region_beh (by kernel_rfl) (by kernel_rfl) ?_
              repeat (go_big_quiet_step ((go_at_call 70; exact Beh.call (cN _))))
              refine wpQuiet_nil ?_
              intro wq hw'
              have hwq := Beh.out hw'
              clear hw'
              go_wp2_with fail
              go_meet
              exact ⟨by rw [HD.out], hwq⟩
          · have hlt' : ¬ ((m + 1 : Nat) : Int) < (R.length : Int) := by omega
            have hlt'' : decide ((m : Int) + 1 < (R.length : Int)) = false := by simp; omega
            have HD : Hid (D = false) := by show _ = _; rw [HDd.out, List.getElem?_eq_none (by omega)]
            clear HT HE HDd hp hlt
            refine wp_region_beh (by kernel_rfl) (by kernel_rfl) ?_
            repeat (go_big_quiet_step (fail))
            refine wpQuiet_nil ?_
            intro wq hw'
            have hwq := Beh.out hw'
            clear hw'
            go_wp2_with fail
            go_meet
            exact ⟨by rw [HD.out], hwq⟩
        case rest =>
          obtain ⟨rfl, q2⟩ := hcut
          have hB2 := chain hB q2
          have hbo := chain hbn q2
          cases D
          · have hE := HE.out rfl
            have HL2 : Hid ((L ++ [⟨x.c, x.q, x.n, mk (txU (R.take (m + 1)))⟩]) ++ rnA (R.drop (m + 1)) = rnA A) := by show _ = _; rw [List.append_assoc, List.singleton_append, ← hE]; exact hL.out
            have hcut := head_units (ao := some ⟨ba, oa, none⟩) hcp (m + 1) hnR
            have hrd := rdk_off hR 0 (m + 1) (Nat.zero_le _) hnR
            have hcu2 := tail_units (ao := some ⟨ba, oa, none⟩) (n := R.length) (cp := cp) (m + 1) hnR
            have hrd2 := rdk_off hR (m + 1) R.length hnR (Nat.le_refl _)
            obtain ⟨a9, k9, e9⟩ := sliced_form (some ⟨ba, oa, none⟩) 0 (m + 1) cp
            obtain ⟨a8, k8, e8⟩ := sliced_form (some ⟨ba, oa, none⟩) (m + 1) R.length cp
            rw [e9] at hcut hrd
            rw [e8] at hcu2 hrd2
            rw [List.drop_zero, Nat.sub_zero] at hrd
            rw [Nat.sub_zero] at hcut
            have hcm : ((m + 1 : Nat) : Int) = (m : Int) + 1 := by omega
            rw [hcm] at hcut hcu2
            clear hcm
            rw [List.take_of_length_le (by simp)] at hrd2
            have cT := fun W (hW : Below w.heap.size w W) => textOf_any (.slice a9 (m + 1) k9) (R.take (m + 1)) W (hrd.below hW) (fun u hu => zR u (List.mem_of_mem_take hu)) (by simp; omega)
            have hxc := fun W (hW : Below w.heap.size w W) => rdk_at (hR.below hW) hx
            have hxx : ∀ W, Below w.heap.size w W → W.cell? ⟨ba, oa, none⟩ = some (.int .i64 x.c) ∧ W.cell? ⟨ba, oa + 1, none⟩ = some (.int .i64 x.q) ∧ W.cell? ⟨ba, oa + 2, none⟩ = some (.int .i64 x.n) := fun W hW => by
              obtain ⟨_, _, e, -, g0, g1, g2, -⟩ := hxc W hW
              cases e
              simp only [Nat.zero_mul, Nat.add_zero] at g0 g1 g2
              exact ⟨g0, g1, g2⟩
            have ho2 := own_belowG ho hbo
            obtain ⟨d0, d1, d2⟩ := hxx _ hB2
            have hsub2 : Hid (∀ u ∈ R.drop (m + 1), u ∈ A) := fun u hu => hsub u (List.mem_of_mem_drop hu)
            have hs2 := hB2.size
            clear HT HE HDd hE hL hrd e9 e8 hxc hx hp hz hn zR nR hsub hpn hbn hB ho hbo
            generalize txU (R.take (m + 1)) = T at *
            go_upto_region 6 with fail
            go_region_law (first
              | (refine step_append_lies _ (by rfl) (.tmp 29) (.tmp 45) 22 (by rfl) w.heap.size 44 i0 (.agg #[.int .i64 0, .int .i64 0, .int .i64 0, .string ⟨#[]⟩]) 4 40 Tryd.underlying22 hi0 hz0 hz1 hz2 rfl (by decide) (.slice aL L.length kL') L.length (rcs L) (by simp [Act.eval]) (own1.alloc _) ⟨w1.heap.size, 0, none⟩ 1 1 [.int .i64 x.c, .int .i64 x.q, .int .i64 x.n, .string (mk T)] (by simp [Act.eval]) rfl (World.news_of_block (heap_alloc_new w1 _)) (by simp [Value.oneCell']) (by decide) (by unfold maxLen; omega) (by omega) (by simp; omega) (w1.heap.size + 1) (by simp) ?_; intro g4 c4 w4 ho4 hg4 _ _; have hb4 := (hB1.alloc hs1 _).grown hg4 (by simp; omega) (fun k hk => (own1.lt k hk).1))
              | (go_simp; go_at_call 68; refine (cT _ (Below.drew hB2)).mono ?_; rintro e w1 ⟨rfl, hb1⟩; have hB1 := chain (Below.drew hB2) hb1; have own1 := own_belowG (World.ownsRow.drew ho2) hb1; obtain ⟨f0, f1, f2⟩ := hxx _ hB1; have hs1 := hB1.size))
            all_goals (go_wp2_with fail)
            all_goals exact ⟨⟨R.drop (m + 1), L ++ [⟨x.c, x.q, x.n, mk T⟩], hrd2, hsub2.out, by simp; omega, HL2, by rw [rcs_append, rcs_one, List.length_append]; exact ho4, hb4⟩, by simp only [lenU]; omega⟩
          · obtain ⟨g1, g2⟩ := HT.out rfl
            have HT2 : Hid (∀ (j : Nat) (a b : Atm), j + 1 < m + 1 + 1 → R[j]? = some a → R[j + 1]? = some b → flw a b = true) := g2
            clear HT HE HDd g2 hL hcp
            go_wp2_with fail
            exact ⟨⟨m + 1 + 1, by omega, by omega, by go_num, HT2, hbo⟩, by simp [Go.RowKit.intOf]; omega⟩
    · have : R = [] := List.length_eq_zero_iff.1 (by omega)
      subst this
      have hLA : L = rnA A := by have := hL.out; simpa [rnA, wtL] using this
      subst hLA
      clear hL
      go_wp2_with fail
      go_ret
      exact ⟨_, rfl, ho, hb⟩
end Go.Proofs.YtjimolafoihnpaaDoor

/-
  What merging gives, as data: gaps are equally many on both sides, how long it is, what it holds.
-/
namespace Go.Proofs.YtjimolafoihnpaaDoor
open Go.ChangeShapes Go.WideShapes Go.ChangeAt Go.RowKit Go.PlainAid

theorem hasK_self {A : List Atm} {u : Atm} (h : u ∈ A) : hasK A u = true := hasK_iff.2 ⟨u, h, rfl⟩
theorem sv_st {A X Y : List Atm} (l : List Atm) : (l.filter (stP A X Y)).filter (svP A X Y) = l.filter (svP A X Y) := by
  rw [List.filter_filter]
  congr 1
  funext u
  unfold stP
  cases svP A X Y u <;> simp
theorem sv_len {A X Y : List Atm} (nA : (kL A).Nodup) (nX : (kL X).Nodup) : (A.filter (svP A X Y)).length = (X.filter (svP A X Y)).length := by
  have h := common_len nA nX (fun k => decide (k ∈ kL Y))
  have e1 : A.filter (svP A X Y) = A.filter (fun x => decide (x.key ∈ kL X) && decide (x.key ∈ kL Y)) := by
    apply List.filter_congr
    intro u hu
    unfold svP
    rw [hasK_self hu]
    rfl
  have e2 : X.filter (svP A X Y) = X.filter (fun x => decide (x.key ∈ kL A) && decide (x.key ∈ kL Y)) := by
    apply List.filter_congr
    intro u hu
    unfold svP
    rw [hasK_self hu]
    unfold hasK
    simp
  rw [e1, e2]
  exact h
theorem svP_swap (A X Y : List Atm) : svP A X Y = svP A Y X := by
  funext u
  unfold svP
  cases hasK A u <;> cases hasK X u <;> cases hasK Y u <;> rfl
theorem stP_swap (A X Y : List Atm) : stP A X Y = stP A Y X := by
  funext u
  unfold stP
  rw [svP_swap]
theorem gap_lens {A X Y : List Atm} (nA : (kL A).Nodup) (nX : (kL X).Nodup) : (gpG (svP A X Y) [] [] (X.filter (stP A X Y))).length = (A.filter (svP A X Y)).length + 1 := by
  rw [gpG_len, sv_st, sv_len nA nX]
  simp
  omega
theorem gap_bal {A X Y : List Atm} (nA : (kL A).Nodup) (nX : (kL X).Nodup) (nY : (kL Y).Nodup) : (gpG (svP A X Y) [] [] (X.filter (stP A X Y))).length = (gpG (svP A X Y) [] [] (Y.filter (stP A X Y))).length := by
  rw [gap_lens nA nX, svP_swap A X Y, stP_swap A X Y, gap_lens nA nY]
theorem mgG_len (turn : Int) : ∀ (GX GY : List (List Atm)) (S : List Atm), (mgG turn GX GY S).length ≤ GX.flatten.length + GY.flatten.length + S.length
  | [], GY, S => by simp [mgG]
  | g :: GX, [], S => by simp [mgG]
  | g :: GX, h :: GY, S => by
    have ih := mgG_len turn GX GY S.tail
    have hp : (prM turn g h).length = g.length + h.length := by unfold prM; split <;> simp; omega
    rw [mgG]
    simp only [List.length_append, List.flatten_cons, hp]
    cases S with
    | nil => simp at ih ⊢; omega
    | cons s S => simp at ih ⊢; omega
theorem mgG_mem (turn : Int) : ∀ (GX GY : List (List Atm)) (S : List Atm) (u : Atm), u ∈ mgG turn GX GY S → u ∈ GX.flatten ∨ u ∈ GY.flatten ∨ u ∈ S
  | [], GY, S, u, h => by simp [mgG] at h
  | g :: GX, [], S, u, h => by simp [mgG] at h
  | g :: GX, h :: GY, S, u, hu => by
    rw [mgG] at hu
    rcases List.mem_append.1 hu with hu | hu
    · unfold prM at hu
      split at hu
      · rcases List.mem_append.1 hu with hu | hu
        · exact .inr (.inl (by simp [hu]))
        · exact .inl (by simp [hu])
      · rcases List.mem_append.1 hu with hu | hu
        · exact .inl (by simp [hu])
        · exact .inr (.inl (by simp [hu]))
    · rcases List.mem_append.1 hu with hu | hu
      · cases S with
        | nil => simp at hu
        | cons s S => simp at hu; subst hu; exact .inr (.inr (by simp))
      · rcases mgG_mem turn GX GY S.tail u hu with h | h | h
        · exact .inl (by simp at h ⊢; exact .inr h)
        · exact .inr (.inl (by simp at h ⊢; exact .inr h))
        · exact .inr (.inr (List.mem_of_mem_tail h))
theorem mgR_mem {turn : Int} {A X Y : List Atm} {u : Atm} (h : u ∈ mgR turn A X Y) : u ∈ X ∨ u ∈ Y ∨ u ∈ A := by
  have key : ∀ l : List Atm, u ∈ (gpG (svP A X Y) [] [] (l.filter (stP A X Y))).flatten → u ∈ l := fun l hu => by
    rw [gpG_all] at hu
    simp only [List.flatten_nil, List.nil_append] at hu
    exact (List.mem_filter.1 (List.mem_filter.1 hu).1).1
  rcases mgG_mem turn _ _ _ u h with h | h | h
  · exact .inl (key X h)
  · exact .inr (.inl (key Y h))
  · exact .inr (.inr (List.mem_filter.1 h).1)
theorem mgR_len {turn : Int} {A X Y : List Atm} : (mgR turn A X Y).length ≤ X.length + Y.length + A.length := by
  have h := mgG_len turn (gpG (svP A X Y) [] [] (X.filter (stP A X Y))) (gpG (svP A X Y) [] [] (Y.filter (stP A X Y))) (A.filter (svP A X Y))
  have h1 := gpG_sum (svP A X Y) (X.filter (stP A X Y))
  have h2 := gpG_sum (svP A X Y) (Y.filter (stP A X Y))
  have h3 := List.length_filter_le (stP A X Y) X
  have h4 := List.length_filter_le (stP A X Y) Y
  have h5 := List.length_filter_le (svP A X Y) A
  unfold mgR
  omega
/-- May the two be merged over the third? -/
def mdB (A X Y : List Atm) : Bool := fitD A X && fitD A Y && !(Y.any (fun u => hasK X u && !hasK A u))
/-- What Docs answers: the error, the document. -/
def mdE (b x y : List RunD) (nx ny : Int) : Int := if ckL [b, x, y] = 0 then (if mdB (ats b) (ats x) (ats y) = true then (if (mgR (cmpI nx ny) (ats b) (ats x) (ats y)).length ≤ 1000 then 0 else 91) else 141) else 120
def mdL (b x y : List RunD) (nx ny : Int) : List RunD := if mdE b x y nx ny = 0 then rnA (mgR (cmpI nx ny) (ats b) (ats x) (ats y)) else []
theorem mdL_no {b x y : List RunD} {nx ny : Int} (h : mdE b x y nx ny ≠ 0) : mdL b x y nx ny = [] := if_neg h
theorem ckL_good {L : List (List RunD)} (h : ckL L = 0) : ∀ l ∈ L, Good l := fun l hl => by
  unfold ckL at h
  split at h
  · rename_i h1
    rw [List.all_eq_true] at h1
    exact (good_iff l).1 (h1 l hl)
  · cases h
theorem good_kl {l : List RunD} (h : Good l) : (kL (ats l)).Nodup ∧ (∀ u ∈ ats l, u.May) ∧ (ats l).length ≤ 1000 ∧ ∀ u ∈ ats l, szI u.z ≠ 0 := by
  have hg := good_ats.1 h
  exact ⟨hg.2.2.1, hg.2.1, hg.2.2.2, ats_sz hg.1.all⟩
theorem rdl_three (W : World) (u v t : Value) (b x y : List RunD) (hb : RdN W u b) (hx : RdN W v x) (hy : RdN W t y) :
    RdL (W.alloc (.cells #[u, v, t] 22)) (.slice (some ⟨W.heap.size, 0, none⟩) 3 3) [b, x, y] := by
  have h := heap_alloc_new W (.cells #[u, v, t] 22)
  have q : Below W.heap.size W (W.alloc (.cells #[u, v, t] 22)) := (Below.refl _ W).alloc (Nat.le_refl _) _
  refine ⟨_, 3, rfl, fun i l hl => ?_⟩
  match i, hl with
  | 0, hl => simp at hl; subst hl; exact ⟨W.heap.size, 0, u, rfl, heap_lt h, by unfold World.cell?; rw [h]; rfl, hb.below q⟩
  | 1, hl => simp at hl; subst hl; exact ⟨W.heap.size, 0, v, rfl, heap_lt h, by unfold World.cell?; rw [h]; rfl, hx.below q⟩
  | 2, hl => simp at hl; subst hl; exact ⟨W.heap.size, 0, t, rfl, heap_lt h, by unfold World.cell?; rw [h]; rfl, hy.below q⟩
  | (i + 3), hl => simp at hl
end Go.Proofs.YtjimolafoihnpaaDoor

/-
  The contract of Docs.
-/
namespace Go.Proofs.YtjimolafoihnpaaDoor
open Go.ChangeShapes Go.WideShapes Go.ChangeAt Go.RowKit Go.PlainAid

set_option maxRecDepth 20000 in
set_option maxHeartbeats 2000000 in
theorem docs_any (vb vx vy : Value) (b x y : List RunD) (nx ny : Int) (w : World) (hV : VS w) (rb : RdN w vb b) (rx : RdN w vx x) (ry : RdN w vy y) (hm : ∀ l ∈ [b, x, y], l.length ≤ 1125899906842624 ∧ ∀ r ∈ l, r.In) :
    Calls Tryd.prog 12 #[vb, vx, vy, .int .i64 nx, .int .i64 ny] w fun e w' => ∃ u, e = .returned (.tuple #[u, .int .i64 (mdE b x y nx ny)]) ∧ w'.ownsRow w.heap.size 44 4 u (mdL b x y nx ny).length (rcs (mdL b x y nx ny)) ∧ Below w.heap.size w w' := by
  have hL := rdl_three w vb vx vy b x y rb rx ry
  have q0 : Below w.heap.size w (w.alloc (.cells #[vb, vx, vy] 22)) := (Below.refl _ w).alloc (Nat.le_refl _) _
  have cK := mcheck_any _ [b, x, y] _ (hV.below q0) hL hm (by simp)
  have none_ : ∀ (z : Int) (w' : World), mdE b x y nx ny = z → z ≠ 0 → Below w.heap.size w w' → ∃ u, (Ending.returned (.tuple #[.slice none 0 0, .int .i64 z])) = .returned (.tuple #[u, .int .i64 (mdE b x y nx ny)]) ∧ w'.ownsRow w.heap.size 44 4 u (mdL b x y nx ny).length (rcs (mdL b x y nx ny)) ∧ Below w.heap.size w w' := fun z w' h h0 hb => by
    rw [mdL_no (by rw [h]; exact h0), h]
    exact ⟨_, rfl, World.ownsRow_nil _ _ _ _, hb⟩
  obtain ⟨abo, abc, eb, -⟩ := id rb
  subst eb
  obtain ⟨axo, axc, ex, -⟩ := id rx
  subst ex
  obtain ⟨ayo, ayc, ey, -⟩ := id ry
  subst ey
  by_cases hck : ckL [b, x, y] = 0
  · have gb := ckL_good hck b (by simp)
    have gx := ckL_good hck x (by simp)
    have gy := ckL_good hck y (by simp)
    rw [hck] at cK
    have c1 := fun W (hW : Below w.heap.size w W) => rowOf_any _ b W (rb.below hW) gb
    have c2 := fun W (hW : Below w.heap.size w W) => rowOf_any _ x W (rx.below hW) gx
    have c3 := fun W (hW : Below w.heap.size w W) => rowOf_any _ y W (ry.below hW) gy
    obtain ⟨nB, mB, lB, zB⟩ := good_kl gb
    obtain ⟨nX, mX, lX, zX⟩ := good_kl gx
    obtain ⟨nY, mY, lY, zY⟩ := good_kl gy
    have HE : Hid (mdE b x y nx ny = if mdB (ats b) (ats x) (ats y) = true then (if (mgR (cmpI nx ny) (ats b) (ats x) (ats y)).length ≤ 1000 then 0 else 91) else 141) := by show _ = _; unfold mdE; rw [if_pos hck]
    have HLd : Hid (mdL b x y nx ny = if mdE b x y nx ny = 0 then rnA (mgR (cmpI nx ny) (ats b) (ats x) (ats y)) else []) := rfl
    clear rb rx ry hL hm hck gb gx gy hV
    generalize ats b = A at *
    generalize ats x = X at *
    generalize ats y = Y at *
    go_enter Tryd.func12, Tryd.ntmps12
    go_wp2_with fail
    refine cK.mono ?_
    rintro e w1 ⟨rfl, q1⟩
    have hB := chain q0 q1
    clear cK q0 q1
    go_wp2_with fail
    refine (c1 _ hB).mono ?_
    rintro e w2 ⟨a1, p1, rfl, rA, mA, q2⟩
    replace hB := chain hB q2
    have iA : IsRw w2 ⟨a1, p1, w1.heap.size + 1⟩ A := ⟨rA, mA⟩
    clear c1 q2 rA mA
    go_wp2_with fail
    refine (c2 _ hB).mono ?_
    rintro e w3 ⟨a2, p2, rfl, rX, mX', q3⟩
    replace hB := chain hB q3
    replace iA := iA.below q3
    have iX : IsRw w3 ⟨a2, p2, w2.heap.size + 1⟩ X := ⟨rX, mX'⟩
    clear c2 q3 rX mX'
    go_wp2_with fail
    refine (c3 _ hB).mono ?_
    rintro e w4 ⟨a3, p3, rfl, rY, mY', q4⟩
    replace hB := chain hB q4
    replace iA := iA.below q4
    replace iX := iX.below q4
    have iY : IsRw w4 ⟨a3, p3, w3.heap.size + 1⟩ Y := ⟨rY, mY'⟩
    clear c3 q4 rY mY'
    obtain ⟨qb, bA, bX, bY⟩ := boxes3 ⟨a1, p1, w1.heap.size + 1⟩ ⟨a2, p2, w2.heap.size + 1⟩ ⟨a3, p3, w3.heap.size + 1⟩ A.length X.length Y.length w4
    simp only at qb
    go_wp2_with fail
    generalize World.alloc (World.alloc (World.alloc _ _) _) _ = w7 at *
    replace iA := iA.below qb
    replace iX := iX.below qb
    replace iY := iY.below qb
    replace hB := chain hB qb
    have cF1 := fit_any _ _ A X w7 iA iX (by omega)
    have cF2 := fun W (hW : Below w7.heap.size w7 W) => fit_any _ _ A Y W (iA.below hW) (iY.below hW) (by omega)
    have cF3 := fun W (hW : Below w7.heap.size w7 W) => apart_any _ _ _ A X Y W (iA.below hW) (iX.below hW) (iY.below hW) (by omega)
    have cM := fun W (hW : Below w7.heap.size w7 W) => merged_any _ _ _ A X Y (cmpI nx ny) W (iA.below hW) (iX.below hW) (iY.below hW) lB lX lY zX zY (gap_bal nB nX nY) (by have := mgR_len (turn := cmpI nx ny) (A := A) (X := X) (Y := Y); omega)
    have zR : ∀ u ∈ mgR (cmpI nx ny) A X Y, szI u.z ≠ 0 := fun u hu => by
      rcases mgR_mem hu with h | h | h
      · exact zX u h
      · exact zY u h
      · exact zB u h
    have nR : ∀ u ∈ mgR (cmpI nx ny) A X Y, 0 ≤ u.n ∧ u.n ≤ 1000000 := fun u hu => by
      have hm : u.May := by
        rcases mgR_mem hu with h | h | h
        · exact mX u h
        · exact mY u h
        · exact mB u h
      have := hm.2
      omega
    have hRl : (mgR (cmpI nx ny) A X Y).length ≤ 100000 := by have := mgR_len (turn := cmpI nx ny) (A := A) (X := X) (Y := Y); omega
    simp only at cF1 cF2 cF3 cM
    clear iA iX iY qb
    cases e1 : fitD A X
    · have HR : Hid (mdE b x y nx ny = 141) := by show _ = _; rw [HE.out]; unfold mdB; rw [e1]; rfl
      rw [e1] at cF1
      clear e1 HE
      refine cF1.mono ?_
      rintro e w8 ⟨rfl, q8⟩
      go_wp2_with fail
      go_ret2
      exact none_ 141 _ HR.out (by decide) (chain hB q8)
    rw [e1] at cF1
    refine cF1.mono ?_
    rintro e w8 ⟨rfl, q8⟩
    obtain ⟨f0, f1⟩ := (bA.below q8).cells
    obtain ⟨f2, f3⟩ := (bX.below q8).cells
    obtain ⟨f4, f5⟩ := (bY.below q8).cells
    simp only at f0 f1 f2 f3 f4 f5
    have cF2 := cF2 _ q8
    cases e2 : fitD A Y
    · have HR : Hid (mdE b x y nx ny = 141) := by show _ = _; rw [HE.out]; unfold mdB; rw [e1, e2]; rfl
      rw [e2] at cF2
      clear e1 e2 HE cF1
      go_wp2_with fail
      refine cF2.mono ?_
      rintro e w9 ⟨rfl, q9⟩
      go_wp2_with fail
      go_ret2
      exact none_ 141 _ HR.out (by decide) (chain (chain hB q8) q9)
    rw [e2] at cF2
    clear cF1
    go_wp2_with fail
    refine cF2.mono ?_
    rintro e w9 ⟨rfl, q9⟩
    replace q9 := chain q8 q9
    clear f0 f1 f2 f3 f4 f5 cF2 q8
    obtain ⟨f0, f1⟩ := (bA.below q9).cells
    obtain ⟨f2, f3⟩ := (bX.below q9).cells
    obtain ⟨f4, f5⟩ := (bY.below q9).cells
    simp only at f0 f1 f2 f3 f4 f5
    have cF3 := cF3 _ q9
    cases e3 : Y.any (fun u => hasK X u && !hasK A u)
    · have HE2 : Hid (mdE b x y nx ny = if (mgR (cmpI nx ny) A X Y).length ≤ 1000 then 0 else 91) := by show _ = _; rw [HE.out]; unfold mdB; rw [e1, e2, e3]; rfl
      rw [e3] at cF3
      clear e1 e2 e3 HE
      go_wp2_with fail
      refine cF3.mono ?_
      rintro e w10 ⟨rfl, q10⟩
      replace q10 := chain q9 q10
      clear f0 f1 f2 f3 f4 f5 cF3 q9
      obtain ⟨f0, f1⟩ := (bA.below q10).cells
      obtain ⟨f2, f3⟩ := (bX.below q10).cells
      obtain ⟨f4, f5⟩ := (bY.below q10).cells
      simp only at f0 f1 f2 f3 f4 f5
      have hB10 := chain hB q10
      obtain ⟨R, HRd⟩ : ∃ R, Hid (mgR (cmpI nx ny) A X Y = R) := ⟨_, rfl⟩
      rw [HRd.out] at cM zR nR hRl HE2 HLd
      obtain ⟨turn, hturn⟩ : ∃ t, t = cmpI nx ny := ⟨_, rfl⟩
      have cC := fun W => cmpCompare_any nx ny W
      rw [← hturn] at cC cM
      clear hturn zB zX zY mB mX mY
      go_upto_region 7 with fail
      go_cut [16] (fun u wx => wx.ownsRow w10.heap.size 136 4 u R.length (ucs R) ∧ Below w10.heap.size w10 wx)
      case first =>
        go_region_with (first | (go_at_call 41; refine (cC _).mono ?_; rintro e wa ⟨rfl, qa⟩; have hqa : Below w10.heap.size w10 wa := chain (Below.drew (Below.refl _ w10)) qa; obtain ⟨g0, g1⟩ := (bA.below (chain q10 hqa)).cells; obtain ⟨g2, g3⟩ := (bX.below (chain q10 hqa)).cells; obtain ⟨g4, g5⟩ := (bY.below (chain q10 hqa)).cells; simp only at g0 g1 g2 g3 g4 g5) | (go_at_call 40; refine (cM _ (chain q10 hqa)).mono ?_; rintro e wb ⟨ub, rfl, hob, qb⟩; obtain ⟨ab, kb, rfl⟩ := own_form hob))
        all_goals
          go_wp2_with fail
          go_meet
        all_goals exact ⟨own_lower hob hqa.size, chain hqa qb⟩
      case rest =>
        obtain ⟨hou, qc⟩ := hcut
        have rU := rdk_own hou
        obtain ⟨au, ku, rfl⟩ := own_form hou
        have hBc := chain hB10 qc
        have cR := runsOf_any _ R _ rU zR nR hRl
        clear f0 f1 f2 f3 f4 f5 cM cC bA bX bY hou rU zR nR
        by_cases hbig : R.length ≤ 1000
        · have hbig' : ¬ 1000 < (R.length : Int) := by omega
          have HR : Hid (mdE b x y nx ny = 0 ∧ mdL b x y nx ny = rnA R) := by
            have h0 : mdE b x y nx ny = 0 := by rw [HE2.out, if_pos hbig]
            exact ⟨h0, by rw [HLd.out, if_pos h0]⟩
          clear HE2 HLd
          go_wp2_with fail
          refine cR.mono ?_
          rintro e wd ⟨ud, rfl, hod, qd⟩
          go_wp2_with fail
          go_ret2
          rw [HR.out.1, HR.out.2]
          exact ⟨_, rfl, own_lower hod hBc.size, chain hBc qd⟩
        · have hbig' : 1000 < (R.length : Int) := by omega
          have HR : Hid (mdE b x y nx ny = 91) := by show _ = _; rw [HE2.out, if_neg hbig]
          clear HE2 HLd
          go_wp2_with fail
          go_ret2
          exact none_ 91 _ HR.out (by decide) hBc
    · have HR : Hid (mdE b x y nx ny = 141) := by show _ = _; rw [HE.out]; unfold mdB; rw [e1, e2, e3]; rfl
      rw [e3] at cF3
      clear e1 e2 e3 HE
      go_wp2_with fail
      refine cF3.mono ?_
      rintro e w10 ⟨rfl, q10⟩
      go_wp2_with fail
      go_ret2
      exact none_ 141 _ HR.out (by decide) (chain hB (chain q9 q10))
  · have HE : Hid (mdE b x y nx ny = 120) := by show _ = _; unfold mdE; rw [if_neg hck]
    have e1 : ckL [b, x, y] = 120 := by
      unfold ckL at hck ⊢
      split
      · rename_i h
        rw [if_pos h] at hck
        exact absurd rfl hck
      · rfl
    rw [e1] at cK
    clear e1 hck hL rb rx ry hm
    go_enter Tryd.func12, Tryd.ntmps12
    go_wp2_with fail
    refine cK.mono ?_
    rintro e w1 ⟨rfl, q1⟩
    go_wp2_with fail
    go_ret2
    exact none_ 120 _ HE.out (by decide) (chain q0 q1)
end Go.Proofs.YtjimolafoihnpaaDoor
