/-
  The reference's methods: Waiting, Sync, Crash.
-/
import Derived.Test.YthgdjgbikljbeaaRefB
namespace Go.Proofs.Ythgdjgbikljbeaa
open Go.RowKit Go.Maps

theorem Try.infoI : (Try.prog.info? 3).map (fun i => (i.zero, i.size, i.bytes)) = some (some (.int .i64 0), 1, 8) := by kernel_rfl

theorem one_one (x : Value) (h : x.oneCell' = true) : ∀ u ∈ [x], u.oneCell' = true := by intro u hu; simp at hu; subst hu; exact h
theorem one_new (wr : World) (x : Value) (e : Nat) : ∀ j u, [x][j]? = some u → (wr.alloc (.cells #[x] e)).cell? ((⟨wr.heap.size, 0, none⟩ : Addr).add j) = some u := by
  intro j u hj
  match j, hj with
  | 0, hj => simp at hj; subst hj; simp [Addr.add]

theorem below_app {base : Nat} {w wr w1 : World} {e n : Nat} {v : Value} {xs : List Value} {o : Obj} (hb : base ≤ w.heap.size) (hbl : Below base w wr) (hown : wr.ownsRow base e 1 v n xs) (hg : (wr.alloc o).grownBy w1 v.ownBlock) : Below base w w1 :=
  (hbl.alloc (Nat.le_trans hb hbl.size) o).grown hg (by have := hbl.size; simp; omega) (fun k hk => (hown.lt k hk).1)

set_option maxRecDepth 20000 in
set_option maxHeartbeats 1000000 in
theorem rwaiting_any {w : World} {q gs gi gw : Nat} {s : DevS} (h : IsRef w q gs gi gw s) :
    Calls Try.prog 34 #[.pointer (some ⟨q, 0, none⟩)] w fun e w' => ∃ v, e = .returned v ∧ w'.ownsRow w.heap.size 3 1 v s.keys.length (iv s.keys) ∧ Below w.heap.size w w' := by
  obtain ⟨X, h, _⟩ := h
  obtain ⟨i0, hi, hz0, hz1, hz2⟩ := info_parts Try.infoI
  have hn8 := h.hi
  go_enter Try.func34, Try.ntmps34
  go_wp2_with fail
  go_loopw [3, 4] (fun v i wr => ∃ k : Nat, k ≤ s.n ∧ i = .int .i64 (k : Int) ∧ wr.ownsRow w.heap.size 3 1 v (keysF k s.waits).length (iv (keysF k s.waits)) ∧ Below w.heap.size w wr)
    (fun _ i _ => s.n - (intOf i).toNat)
  case atStart => exact ⟨0, Nat.zero_le _, rfl, World.ownsRow_nil _ _ _ _, Below.refl _ _⟩
  case round =>
    obtain ⟨k, hk, rfl, hown, hB⟩ := hrel
    have hr := h.below hB
    obtain ⟨cs, ci, cw, h0, h1, h2, h3, h4, _, hci, _⟩ := hr.cells
    have hlen : (keysF k s.waits).length ≤ 8192 := Nat.le_trans (keysF_le _ _) (by omega)
    by_cases hlt : k < s.n
    · have hlt' : (k : Int) < (s.n : Int) := by omega
      have hc := hr.ri.cell hlt
      cases hf : (s.waits k).isSome with
      | true =>
        simp only [hf] at hc
        have hsz := hB.size
        have HK : Hid (keysF (k + 1) s.waits = keysF k s.waits ++ [k]) := by
          show _ = _
          rw [keysF_succ, if_pos hf]
        clear hr h0 h2 h3 h4 hf
        go_wp2_with (first | (at_builtin; refine wpList_append_own _ rfl (.tmp 21) (.tmp 23) 45 rfl w.heap.size 3 i0 (.int .i64 0) 1 8 Try.underlying45 hi hz0 hz1 hz2 rfl (by decide) _ _ _ rfl (hown.alloc _) ⟨wr.heap.size, 0, none⟩ 1 1 [.int .i64 (k : Int)] rfl rfl (one_new _ _ _) (one_one _ rfl) (by unfold maxLen; omega) (by omega) (by simp; omega) ?_) | go_in)
        intro v' w1 hown1 hgrow _
        have hB1 := below_app (Nat.le_refl _) hB hown hgrow
        have hown2 : w1.ownsRow w.heap.size 3 1 v' (keysF (k + 1) s.waits).length (iv (keysF (k + 1) s.waits)) := by
          rw [HK.out]
          simpa [iv] using hown1
        clear hown1 hgrow hown
        go_wp2_with fail
        go_roundw
        case rel => exact ⟨k + 1, by omega, by go_num, hown2, hB1⟩
        case measure => simp [intOf]; omega
      | false =>
        simp only [hf] at hc
        have HK : Hid (keysF (k + 1) s.waits = keysF k s.waits) := by
          show _ = _
          rw [keysF_succ, hf, if_neg (by simp), List.append_nil]
        clear hr h0 h2 h3 h4 hf
        go_wp2_with fail
        go_roundw
        case rel => exact ⟨k + 1, by omega, by go_num, by rw [HK.out]; exact hown, hB⟩
        case measure => simp [intOf]; omega
    · obtain rfl : k = s.n := by omega
      have hlt' : ¬ (s.n : Int) < (s.n : Int) := by omega
      clear hr h0 h2 h3 h4
      go_wp2_with fail
      go_ret
      exact ⟨_, rfl, hown, hB⟩

set_option maxRecDepth 20000 in
set_option maxHeartbeats 2000000 in
theorem rsync_all {w : World} {q gs gi gw : Nat} {s : DevS} (h : IsRef w q gs gi gw s) :
    Calls Try.prog 38 #[.pointer (some ⟨q, 0, none⟩)] w fun e w' => e = .returned (.int .i64 s.sync.1) ∧ IsRef w' q gs gi gw s.sync.2 ∧ Only [q, gs, gi, gw] w w' := by
  have H : Hid (IsRef w q gs gi gw s) := h
  obtain ⟨X, h, hX, hf0, hf1⟩ := h
  obtain ⟨cs0, ci0, cw0, h0, h1, h2, h3, h4, hcs, hci, hcw⟩ := h.cells
  unfold DevS.sync
  cases hu : s.up with
  | false =>
    rw [if_pos rfl]
    have hf : (s.fuse == 0) = true := by
      unfold DevS.up at hu
      simpa using hu
    clear h hX h0 h1 h2 h4 hu
    go_enter Try.func38, Try.ntmps38
    go_wp2_with fail
    go_ret
    exact ⟨rfl, H.out, Only.refl _ _⟩
  | true =>
    rw [if_neg (by simp)]
    have hf : (s.fuse == 0) = false := by
      unfold DevS.up at hu
      simpa using hu
    have hn8 := h.hi
    clear hu H h0 h1 h2 h4
    go_enter Try.func38, Try.ntmps38
    go_wp2_with fail
    clear h3
    go_loopw [3] (fun i wr => ∃ k : Nat, k ≤ s.n ∧ i = .int .i64 (k : Int) ∧ IsRG wr q gs gi gw s.n s.fuse s.age (fun j => if j < k ∧ (s.waits j).isSome = true then X j else mk (s.safeAt j)) (fun j => if j < k then false else (s.waits j).isSome) X ∧ Only [q, gs, gi, gw] w wr)
      (fun i _ => s.n - (intOf i).toNat)
    case atStart => exact ⟨0, Nat.zero_le _, rfl, h.congr (fun j _ => by simp) (fun j _ => by simp) (fun j _ => rfl), Only.refl _ _⟩
    case round =>
      obtain ⟨k, hk, rfl, hr, hO⟩ := hrel
      obtain ⟨cs, ci, cw, h0, h1, h2, h3, h4, hcs, hci, hcw⟩ := hr.cells
      by_cases hlt : k < s.n
      · have hlt' : (k : Int) < (s.n : Int) := by omega
        have hc := hr.ri.cell hlt
        simp only [Nat.lt_irrefl, if_false] at hc
        cases hw : (s.waits k).isSome with
        | true =>
          rw [hw] at hc
          obtain ⟨n1, n2, n3, n4, n5⟩ := hr.inner
          have gx := hr.rx.cell hlt
          have g1 := hr.rs.cell hlt
          have z1 := hr.rs.z k
          have R1 := hr.setS k (X k)
          obtain ⟨cs', ci', cw', h0', h1', h2', h3', h4', hcs', hci', hcw'⟩ := R1.cells
          have gi' := R1.ri.cell hlt
          have zi := R1.ri.z k
          have R2 := R1.setI k false
          have hfin : IsRG ((wr.setCell ⟨gs, k, none⟩ (.string (X k))).setCell ⟨gi, k, none⟩ (.bool false)) q gs gi gw s.n s.fuse s.age (fun j => if j < k + 1 ∧ (s.waits j).isSome = true then X j else mk (s.safeAt j)) (fun j => if j < k + 1 then false else (s.waits j).isSome) X := by
            refine R2.congr (fun j _ => ?_) (fun j _ => ?_) (fun j _ => rfl)
            · by_cases e : j = k
              · subst e; simp [hw]
              · have : j < k + 1 ↔ j < k := by omega
                simp [e, this]
            · by_cases e : j = k
              · subst e; simp
              · have : j < k + 1 ↔ j < k := by omega
                simp [e, this]
          clear hr R1 R2 hw h
          go_wp2_with fail
          refine region_tail 13 Try.mixed (by kernel_rfl) ?_
          simp only [List.take_succ_cons, List.take_zero, List.drop_succ_cons, List.drop_zero]
          iterate 13 still_step
          refine wpStill_nil ?_
          go_wp2
          go_roundw
          case rel => exact ⟨k + 1, by omega, by go_num, hfin.drew, ((hO.trans (Only.drew _ _)).trans (Only.setCell (p := ⟨gs, k, none⟩) _ (by simp) _)).trans (Only.setCell (p := ⟨gi, k, none⟩) _ (by simp) _)⟩
          case measure => simp [intOf]; omega
        | false =>
          rw [hw] at hc
          have hfin : IsRG wr q gs gi gw s.n s.fuse s.age (fun j => if j < k + 1 ∧ (s.waits j).isSome = true then X j else mk (s.safeAt j)) (fun j => if j < k + 1 then false else (s.waits j).isSome) X := by
            refine hr.congr (fun j _ => ?_) (fun j _ => ?_) (fun j _ => rfl)
            · by_cases e : j = k
              · subst e; simp [hw]
              · have : j < k + 1 ↔ j < k := by omega
                simp [this]
            · by_cases e : j = k
              · subst e; simp [hw]
              · have : j < k + 1 ↔ j < k := by omega
                simp [this]
          clear hr hw h
          go_wp2_with fail
          go_roundw
          case rel => exact ⟨k + 1, by omega, by go_num, hfin, hO⟩
          case measure => simp [intOf]; omega
      · obtain rfl : k = s.n := by omega
        have hlt' : ¬ (s.n : Int) < (s.n : Int) := by omega
        have cB := rburn_any hr hf0 hf1
        have hfin : ∀ w2, IsRG w2 q gs gi gw s.n (burnt s.fuse) s.age (fun j => if j < s.n ∧ (s.waits j).isSome = true then X j else mk (s.safeAt j)) (fun j => if j < s.n then false else (s.waits j).isSome) X → IsRef w2 q gs gi gw { s.synced with fuse := burnt s.fuse } := by
          intro w2 h2
          refine ⟨X, h2.congr (fun j hj => ?_) (fun j hj => ?_) (fun j _ => rfl), (fun j t hj ht => (by cases ht)), ?_, ?_⟩
          · show (if j < s.n ∧ (s.waits j).isSome = true then X j else mk (s.safeAt j)) = mk ((orF s.waits s.safe j).getD zeroS)
            unfold orF DevS.safeAt
            cases hwj : s.waits j with
            | none => simp
            | some t => simp [hj, hX j t hj hwj]
          · show (if j < s.n then false else (s.waits j).isSome) = false
            simp [hj]
          · show -1 ≤ burnt s.fuse
            unfold burnt
            split <;> omega
          · show burnt s.fuse ≤ _
            unfold burnt
            split <;> omega
        clear hr h hX
        go_wp2_with (first | (go_at_call 48; refine cB.mono ?_; rintro e w3 ⟨rfl, h3, ho3⟩))
        go_ret
        exact ⟨rfl, hfin _ h3, hO.trans (ho3.mono (by simp))⟩

/-- What the reference has safe when the first k sectors are through. -/
def rcS (s : DevS) (m : List UInt8) (X : Nat → ByteArray) (k : Nat) (j : Nat) : ByteArray :=
  if j < k ∧ (s.waits j).isSome = true ∧ oddAt m (keysF j s.waits).length = true then X j else mk (s.safeAt j)
def rcI (s : DevS) (k : Nat) (j : Nat) : Bool := if j < k then false else (s.waits j).isSome

theorem rcS_odd {s : DevS} {m : List UInt8} {X : Nat → ByteArray} {k : Nat} (hw : (s.waits k).isSome = true) (ho : oddAt m (keysF k s.waits).length = true) (j : Nat) : (if j = k then X k else rcS s m X k j) = rcS s m X (k + 1) j := by
  unfold rcS
  by_cases e : j = k
  · subst e; simp [hw, ho]
  · have : j < k + 1 ↔ j < k := by omega
    simp [e, this]
theorem rcS_not {s : DevS} {m : List UInt8} {X : Nat → ByteArray} {k : Nat} (h : ¬ ((s.waits k).isSome = true ∧ oddAt m (keysF k s.waits).length = true)) (j : Nat) : rcS s m X k j = rcS s m X (k + 1) j := by
  unfold rcS
  by_cases e : j = k
  · subst e
    rw [if_neg (by omega), if_neg (fun h' => h h'.2)]
  · have : j < k + 1 ↔ j < k := by omega
    simp [this]
theorem rcI_one {s : DevS} {k : Nat} (j : Nat) : (if j = k then false else rcI s k j) = rcI s (k + 1) j := by
  unfold rcI
  by_cases e : j = k
  · subst e; simp
  · have : j < k + 1 ↔ j < k := by omega
    simp [e, this]
theorem rcI_not {s : DevS} {k : Nat} (h : (s.waits k).isSome = false) (j : Nat) : rcI s k j = rcI s (k + 1) j := by
  unfold rcI
  by_cases e : j = k
  · subst e; simp [h]
  · have : j < k + 1 ↔ j < k := by omega
    simp [this]

set_option maxRecDepth 20000 in
set_option maxHeartbeats 4000000 in
theorem rcrash_any {w : World} {q gs gi gw : Nat} {s : DevS} (h : IsRef w q gs gi gw s) (x : ByteArray) :
    Calls Try.prog 40 #[.pointer (some ⟨q, 0, none⟩), .string x] w fun e w' => e = .returned (.int .i64 (s.keys.length : Int)) ∧ IsRef w' q gs gi gw (s.crashed x.data.toList) ∧ Only [q, gs, gi, gw] w w' := by
  obtain ⟨X, h, hX, hf0, hf1⟩ := h
  have hn8 := h.hi
  go_enter Try.func40, Try.ntmps40
  go_wp2_with fail
  go_loopw [5, 6] (fun c i wr => ∃ k : Nat, k ≤ s.n ∧ i = .int .i64 (k : Int) ∧ c = .int .i64 ((keysF k s.waits).length : Int) ∧ IsRG wr q gs gi gw s.n s.fuse s.age (rcS s x.data.toList X k) (rcI s k) X ∧ Only [q, gs, gi, gw] w wr)
    (fun _ i _ => s.n - (intOf i).toNat)
  case atStart => exact ⟨0, Nat.zero_le _, rfl, rfl, h.congr (fun j _ => by simp [rcS]) (fun j _ => by simp [rcI]) (fun j _ => rfl), Only.refl _ _⟩
  case round =>
    obtain ⟨k, hk, rfl, rfl, hr, hO⟩ := hrel
    have HQ : ∃ c, Hid ((keysF k s.waits).length = c) := ⟨_, rfl⟩
    obtain ⟨c, HQ⟩ := HQ
    have hcl : c ≤ 8192 := by rw [← HQ.out]; exact Nat.le_trans (keysF_le _ _) (by omega)
    rw [HQ.out]
    obtain ⟨cs, ci, cw, h0, h1, h2, h3, h4, hcs, hci, hcw⟩ := hr.cells
    by_cases hlt : k < s.n
    · have hlt' : (k : Int) < (s.n : Int) := by omega
      have hc := hr.ri.cell hlt
      have eI : rcI s k k = (s.waits k).isSome := by simp [rcI]
      rw [eI] at hc
      clear eI
      cases hw : (s.waits k).isSome with
      | true =>
        rw [hw] at hc
        have HN : Hid ((keysF (k + 1) s.waits).length = c + 1) := by
          show _ = _
          rw [keysF_succ, if_pos hw, List.length_append, HQ.out]
          rfl
        obtain ⟨n1, n2, n3, n4, n5⟩ := hr.inner
        cases hod : oddAt x.data.toList c with
        | true =>
          have hcx : c < x.size := by
            by_cases hcx : c < x.size
            · exact hcx
            · rw [oddAt_out hcx] at hod; cases hod
          have hcx' : (c : Int) < (x.size : Int) := by omega
          have hp' : ((x[c].toNat : Int) % 2 == 1) = true := by
            rw [oddAt_in hcx] at hod
            have : x[c].toNat % 2 = 1 := by simpa using hod
            simp
            omega
          have gx := hr.rx.cell hlt
          have g1 := hr.rs.cell hlt
          have z1 := hr.rs.z k
          have R1 := hr.setS k (X k)
          obtain ⟨cs', ci', cw', h0', h1', h2', h3', h4', hcs', hci', hcw'⟩ := R1.cells
          have gi' := R1.ri.cell hlt
          have zi := R1.ri.z k
          have R2 := R1.setI k false
          have hfin := R2.congr (fun j _ => rcS_odd (m := x.data.toList) hw (by rw [HQ.out]; exact hod) j) (fun j _ => rcI_one j) (fun j _ => rfl)
          clear hr R1 R2 hw h hod
          generalize rcS s x.data.toList X k k = old at g1
          generalize rcI s k k = oldI at gi'
          go_wp2_with fail
          refine region_tail 13 Try.mixed (by kernel_rfl) ?_
          simp only [List.take_succ_cons, List.take_zero, List.drop_succ_cons, List.drop_zero]
          iterate 13 still_step
          refine wpStill_nil ?_
          go_wp2
          go_roundw
          case rel => exact ⟨k + 1, by omega, by go_num, by rw [HN.out]; go_num, hfin.drew, ((hO.trans (Only.drew _ _)).trans (Only.setCell (p := ⟨gs, k, none⟩) _ (by simp) _)).trans (Only.setCell (p := ⟨gi, k, none⟩) _ (by simp) _)⟩
          case measure => simp [intOf]; omega
        | false =>
          have g1 := hr.ri.cell hlt
          have zi := hr.ri.z k
          have R2 := hr.setI k false
          have hfin := R2.congr (fun j _ => rcS_not (m := x.data.toList) (X := X) (k := k) (fun h => by rw [HQ.out, hod] at h; cases h.2) j) (fun j _ => rcI_one j) (fun j _ => rfl)
          clear hr R2 hw h g1
          by_cases hcx : c < x.size
          · have hcx' : (c : Int) < (x.size : Int) := by omega
            have hp' : ((x[c].toNat : Int) % 2 == 1) = false := by
              rw [oddAt_in hcx] at hod
              have : ¬ x[c].toNat % 2 = 1 := by simpa using hod
              simp
              omega
            clear hod
            go_wp2_with fail
            go_roundw
            case rel => exact ⟨k + 1, by omega, by go_num, by rw [HN.out]; go_num, hfin, hO.trans (Only.setCell (p := ⟨gi, k, none⟩) _ (by simp) _)⟩
            case measure => simp [intOf]; omega
          · have hcx' : decide ((c : Int) < (x.size : Int)) = false := by simp; omega
            clear hod
            go_wp2_with fail
            go_roundw
            case rel => exact ⟨k + 1, by omega, by go_num, by rw [HN.out]; go_num, hfin, hO.trans (Only.setCell (p := ⟨gi, k, none⟩) _ (by simp) _)⟩
            case measure => simp [intOf]; omega
      | false =>
        rw [hw] at hc
        have HN : Hid ((keysF (k + 1) s.waits).length = c) := by
          show _ = _
          rw [keysF_succ, hw, if_neg (by simp), List.append_nil, HQ.out]
        have hfin := hr.congr (fun j _ => rcS_not (m := x.data.toList) (X := X) (k := k) (fun h => by rw [hw] at h; cases h.1) j) (fun j _ => rcI_not hw j) (fun j _ => rfl)
        clear hr hw h
        go_wp2_with fail
        go_roundw
        case rel => exact ⟨k + 1, by omega, by go_num, by rw [HN.out], hfin, hO⟩
        case measure => simp [intOf]; omega
    · obtain rfl : k = s.n := by omega
      have hlt' : ¬ (s.n : Int) < (s.n : Int) := by omega
      obtain rfl : s.keys.length = c := HQ.out
      have z3 := hr.z 3
      have z4 := hr.z 4
      have R := (hr.setFuse (-1)).setAge (wrap64 (s.age + 1))
      have hfin : ∀ w2, IsRG w2 q gs gi gw s.n (-1) (wrap64 (s.age + 1)) (rcS s x.data.toList X s.n) (rcI s s.n) X → IsRef w2 q gs gi gw (s.crashed x.data.toList) := by
        intro w2 h2
        refine ⟨X, h2.congr (fun j hj => ?_) (fun j hj => ?_) (fun j _ => rfl), (fun j t hj ht => (by cases ht)), ?_, ?_⟩
        · have hj' : j < s.n := hj
          show rcS s x.data.toList X s.n j = mk ((s.crashed x.data.toList).safeAt j)
          rw [crashed_safeAt _ hj']
          unfold rcS
          by_cases hcnd : (s.waits j).isSome = true ∧ oddAt x.data.toList (keysF j s.waits).length = true
          · rw [if_pos ⟨hj', hcnd⟩, if_pos hcnd]
            obtain ⟨t, ht⟩ := Option.isSome_iff_exists.1 hcnd.1
            rw [hX j t hj' ht]
            simp [DevS.readAt, ht]
          · rw [if_neg (fun h => hcnd h.2), if_neg hcnd]
        · have hj' : j < s.n := hj
          show rcI s s.n j = false
          simp [rcI, hj']
        · show (-1 : Int) ≤ -1
          omega
        · show (-1 : Int) ≤ _
          omega
      clear h hX hr HQ
      go_wp2_with fail
      go_ret
      exact ⟨rfl, hfin _ R, (hO.trans (Only.setCell (p := ⟨q, 3, none⟩) _ (by simp) _)).trans (Only.setCell (p := ⟨q, 4, none⟩) _ (by simp) _)⟩
end Go.Proofs.Ythgdjgbikljbeaa
