/-
  Proved: lists of texts within a list, and lists and words behind one another, that are written are read again (the law PackNested), for every input up to a size.
-/
import Derived.Test.YthkkdbcflfhmaabNest
import Derived.Deep.RegionHeld3
import Derived.Deep.RegionWith
import Derived.BigRegion
import Derived.Deep.DeepCutAuto
import Derived.JoinedCond
namespace Go.Proofs.Ythkkdbcflfhmaab.packNested
open Go.ChangeShapes Go.WideShapes Go.ChangeAt Go.RowKit Go.PlainAid

theorem readsN_at {w : World} {v : Value} {L : List (List ByteArray)} (h : ReadsN w v L) : ∃ ao cp, v = .slice ao L.length cp ∧
    (0 < L.length → ∃ b off, ao = some ⟨b, off, none⟩ ∧ ∀ i, i < L.length → ∃ ai n cp', w.cell? ⟨b, off + i, none⟩ = some (.slice ai n cp') ∧ Reads w (.slice ai n cp') (L.getD i [])) := by
  rcases h with ⟨rfl, ao, cp, rfl⟩ | ⟨b, off, cp, rfl, h⟩
  · exact ⟨ao, cp, rfl, fun h => by simp at h⟩
  · exact ⟨_, cp, rfl, fun _ => ⟨b, off, rfl, h⟩⟩

theorem reads_fm {w : World} {v : Value} {L : List (List ByteArray)} (h : Reads w v (fm L L.length)) : ∃ ao cp, v = .slice ao L.length cp ∧
    (0 < L.length → ∃ b off, ao = some ⟨b, off, none⟩ ∧ ∀ i, i < L.length → w.cell? ⟨b, off + i, none⟩ = some (.string (form (L.getD i [])))) := by
  obtain ⟨ao, cp, rfl, ha⟩ := reads_at h
  have hfl := fm_length L _ (Nat.le_refl _)
  rw [hfl] at ha
  refine ⟨ao, cp, by rw [hfl], fun h0 => ?_⟩
  obtain ⟨b, off, rfl, hc⟩ := ha h0
  exact ⟨b, off, rfl, fun i hi => by rw [hc i hi, fm_get L i hi]⟩

theorem outer (L : List (List ByteArray)) (hL : L.length ≤ 1048576) :
    ∃ (O : ByteArray) (er : Int), (∀ v W, Reads W v (fm L L.length) → Calls Try.prog 13 #[v] W fun e w' => e = .returned (.tuple #[.string O, .int .i64 er]) ∧ Below W.heap.size W w') ∧
      (er = 0 → ∀ W, Calls Try.prog 26 #[.string O, .int .i64 0] W fun e w' => ∃ v, e = .returned (.tuple #[v, .int .i64 (O.size : Int), .int .i64 0]) ∧ Reads w' v (fm L L.length) ∧ Below W.heap.size W w') := by
  by_cases h : Good (fm L L.length)
  · exact ⟨_, 0, fun v W hr => list_good h v W hr, fun _ W => take_form h W⟩
  · refine ⟨_, 2, fun v W hr => list_bad h ?_ v W hr, fun h => by omega⟩
    rw [fm_length L _ (Nat.le_refl _)]
    unfold maxLen; omega

set_option maxRecDepth 100000 in
set_option maxHeartbeats 40000000 in
theorem walk (v : Value) (L : List (List ByteArray)) (w : World) (hr : ReadsN w v L) (hL : L.length ≤ 1048576) (hm : ∀ j, j < L.length → (L.getD j []).length ≤ maxLen) :
    Calls Try.prog 8 #[v] w fun e w' => e = .returned (.bool true) ∧ Below w.heap.size w w' := by
  obtain ⟨i0, hin, hz0, hz1, hz2⟩ := info_parts Try.info9
  obtain ⟨ao, cp, rfl, hao⟩ := readsN_at hr
  clear hr
  have HM : Hid (∀ j, j < L.length → (L.getD j []).length ≤ maxLen) := hm
  clear hm
  go_enter Try.func8, Try.ntmps8
  go_wp2
  go_loopw [3, 4, 5] (fun t s i wr => ∃ k : Nat, k ≤ L.length ∧ i = .int .i64 (k : Int) ∧ s = .string (mk (allB L k)) ∧ wr.ownsRow w.heap.size 9 1 t (fm L k).length (sv (fm L k)) ∧ Below w.heap.size w wr ∧ Hid (∀ j, j < k → Good (L.getD j []))) (fun _ _ i _ => L.length - (intOf i).toNat)
  case atStart => exact ⟨0, by omega, rfl, rfl, World.ownsRow_nil _ _ _ _, Below.refl _ _, fun j hj => by omega⟩
  case round =>
    obtain ⟨k, hk, rfl, rfl, hown, hbl, HG⟩ := hrel
    by_cases hlt : k < L.length
    · obtain ⟨b, off, rfl, hcell⟩ := hao (by omega)
      obtain ⟨ai, n, cp', c0, hrd0⟩ := hcell k hlt
      have c1 := (hbl.cell (World.block_lt_of_cell? w _ c0)).trans c0
      have hrd := reads_below hrd0 hbl
      clear hcell hao c0 hrd0
      by_cases gk : Good (L.getD k [])
      · obtain ⟨F, Wd, S0, S1, hF, hS, cW, d0, d1⟩ := round1 L k hL hlt HG.out gk
        have cL := list_good gk _ _ hrd
        have HK : Hid (∀ j, j < k + 1 → Good (L.getD j [])) := fun j hj => by
          by_cases e : j = k
          · subst e; exact gk
          · exact HG.out j (by omega)
        have HP : Hid (fm L (k + 1) = fm L k ++ [F]) := by rw [hF]; exact fm_succ L k hlt
        have HS : Hid (S1 = mk (allB L (k + 1))) := hS
        have hfl := fm_length L k hk
        have hsz := hbl.size
        rw [← hF] at cL
        clear hF hS gk hrd HG
        go_wp2_with (first | (go_at_call 13; refine cL.mono ?_; rintro e w1 ⟨rfl, hb1⟩; have hown1 := own_below hown hb1; have hs1 := hb1.size; have hbl1 := chain hbl hb1; clear cL c1) | (at_builtin; refine wpList_append_own _ rfl (.tmp 42) (.tmp 44) 22 rfl w.heap.size 9 i0 (.string ⟨#[]⟩) 1 16 Try.underlying22 hin hz0 hz1 hz2 rfl (by decide) _ _ _ rfl (hown1.alloc _) ⟨w1.heap.size, 0, none⟩ 1 1 [.string F] rfl rfl (one_new _ _ _) (one_one _ rfl) (by unfold maxLen; omega) (by omega) (by simp; omega) ?_; intro v' w2 hown2 hgrow hnil; have R1 := own_snocS hown2 rfl; have R2 := below_app (Nat.le_refl _) hbl1 hown1 hgrow; clear hown2 hgrow hown1 hnil hown) | (go_at_call 17; refine (cW _ (by go_num) _).mono ?_; rintro e w3 ⟨rfl, hb3⟩))
        rw [← HP.out] at R1
        rw [HS.out]
        have R3 := own_below R1 hb3
        have R4 := chain R2 hb3
        clear R1 R2 hb3 hb1 hbl hbl1 d0 d1 cW
        go_roundw
        case rel => exact ⟨k + 1, by omega, by go_num, rfl, R3, R4, HK⟩
        case measure => simp [intOf]; omega
      · have cL := list_bad gk (HM.out k hlt) _ _ hrd
        clear gk hrd HG
        go_wp2_with (first | (go_at_call 13; refine cL.mono ?_; rintro e w1 ⟨rfl, hb1⟩; clear cL c1) | (go_at_call 15; refine (live_any _).mono ?_; rintro e w2 ⟨rfl, hb2⟩))
        go_ret
        exact ⟨rfl, chain (chain hbl hb1) hb2⟩
    · have hq : k = L.length := by omega
      subst hq
      have HG' : Hid (∀ j, j < L.length → Good (L.getD j [])) := HG
      have HT : Hid (∀ k, k < L.length → _) := take_all L hL HG.out
      have hAs : (mk (allB L L.length)).size = (allB L L.length).length := mk_size _
      obtain ⟨O, er, cO, fO⟩ := outer L hL
      have hrd := reads_own hown
      clear HG hk hlt
      go_upto_if 59 with (go_at_call 13; refine (cO _ _ hrd).mono ?_; rintro e w1 ⟨rfl, hb1⟩)
      have hb1' := chain hbl hb1
      go_cut [10, 11, 12, 13, 14, 15, 16] (fun t6 t7 t8 t9 t10 t11 t12 wx => Below w.heap.size w wx)
      case first =>
        by_cases h0 : er = 0
        · subst h0
          have c26 := fO rfl
          have hrd1 := reads_below hrd hb1
          clear fO cO hrd
          go_wp2_with (first | (go_at_call 26; refine (c26 _).mono ?_; rintro e w2 ⟨v2, rfl, hrd2, hb2⟩; clear c26; obtain ⟨a2, cp2, rfl, ha2⟩ := reads_fm hrd2) | (go_at_call 16; refine (same_true _ _ _ _ (by rw [fm_length L _ (Nat.le_refl _)]; unfold maxLen; omega) hrd2 (reads_below hrd1 hb2)).mono ?_; rintro e w3 ⟨rfl, hb3⟩))
          have hbA : Below w2.heap.size w2 w3 := hb3
          have hbB : Below w.heap.size w w3 := chain (chain hb1' hb2) hb3
          clear hrd1 hrd2 hb1 hb2 hb3 hbl hown hb1'
          go_loopw [13] (fun i wr => ∃ k : Nat, k ≤ L.length ∧ i = .int .i64 (k : Int) ∧ Below w2.heap.size w2 wr ∧ Below w.heap.size w wr) (fun i _ => L.length - (intOf i).toNat)
          case atStart => exact ⟨0, by omega, rfl, hbA, hbB⟩
          case round =>
            clear hbA hbB
            obtain ⟨k, hk, rfl, hbA, hbB⟩ := hrel
            by_cases hlt : k < L.length
            · obtain ⟨b, off, rfl, hcell⟩ := hao (by omega)
              obtain ⟨ai, n, cp', c0, hrd0⟩ := hcell k hlt
              have c1 := (hbB.cell (World.block_lt_of_cell? w _ c0)).trans c0
              have hrd := reads_below hrd0 hbB
              obtain ⟨b', off', rfl, hcell'⟩ := ha2 (by omega)
              have d0 := hcell' k (by omega)
              have d1 := (hbA.cell (World.block_lt_of_cell? w2 _ d0)).trans d0
              have c26 := fun W => take_form (HG'.out k hlt) W
              generalize form (L.getD k []) = F at d1 c26
              have hml := HM.out k hlt
              clear hcell hao c0 hrd0 hcell' ha2 d0
              go_wp2_with (first | (go_at_call 26; refine (c26 _).mono ?_; rintro e w4 ⟨v4, rfl, hrd4, hb4⟩; clear c26; have c2 := (hb4.cell (World.block_lt_of_cell? wr _ c1)).trans c1; have d2 := (hb4.cell (World.block_lt_of_cell? wr _ d1)).trans d1; have hrd5 := reads_below hrd hb4; clear hrd c1 d1) | (go_at_call 16; refine (same_true _ _ _ _ hml hrd4 hrd5).mono ?_; rintro e w5 ⟨rfl, hb5⟩))
              have R1 := (hbA.trans (hb4.mono hbA.size)).trans (hb5.mono (Nat.le_trans hbA.size hb4.size))
              have R2 := chain (chain hbB hb4) hb5
              clear hbA hbB hb4 hb5 hrd4 hrd5 c2 d2
              go_roundw
              case rel => first | exact ⟨k + 1, by omega, by go_num, R1, R2⟩ | ((repeat apply Exists.intro); exact ⟨⟨k + 1, by omega, by go_num, R1, R2⟩, rfl⟩)
              case measure => simp [intOf]; omega
            · have hq : k = L.length := by omega
              subst hq
              clear hao ha2
              go_wp2
              go_meet
              case rel => exact hbB
        · have h1 : (er == 0) = false := by simpa using h0
          clear fO cO
          go_wp2
          go_meet
          case rel => exact hb1'
      case rest =>
        clear fO cO hown hrd hbl hb1 hb1'
        go_wp2
        go_loopw [17, 18] (fun a i wr => ∃ k : Nat, k ≤ L.length ∧ i = .int .i64 (k : Int) ∧ a = .int .i64 ((allB L k).length : Int) ∧ Below w.heap.size w wr) (fun _ i _ => L.length - (intOf i).toNat)
        case atStart => exact ⟨0, by omega, rfl, rfl, hcut⟩
        case round =>
          obtain ⟨k, hk, rfl, rfl, hbB⟩ := hrel
          by_cases hlt : k < L.length
          · obtain ⟨b, off, rfl, hcell⟩ := hao (by omega)
            obtain ⟨ai, n, cp', c0, hrd0⟩ := hcell k hlt
            have c1 := (hbB.cell (World.block_lt_of_cell? w _ c0)).trans c0
            have hrd := reads_below hrd0 hbB
            obtain ⟨m, c26, c23⟩ := HT.out k hlt
            have hml := HM.out k hlt
            clear hcell hao c0 hrd0 hcut
            go_wp2_with (first | (go_at_call 26; refine (c26 _).mono ?_; rintro e w4 ⟨v4, rfl, hrd4, hb4⟩; clear c26; have c2 := (hb4.cell (World.block_lt_of_cell? wr _ c1)).trans c1; have hrd5 := reads_below hrd hb4; clear hrd c1) | (go_at_call 23; refine (c23 _).mono ?_; rintro e w5 ⟨rfl, rfl⟩; clear c23) | (go_at_call 16; refine (same_true _ _ _ _ hml hrd4 hrd5).mono ?_; rintro e w6 ⟨rfl, hb6⟩))
            have R2 := chain (chain hbB hb4) hb6
            clear hbB hb4 hb6 hrd4 hrd5 c2
            go_roundw
            case rel => exact ⟨k + 1, by omega, by go_num, rfl, R2⟩
            case measure => simp [intOf]; omega
          · have hq : k = L.length := by omega
            subst hq
            clear hao
            go_wp2_with (go_at_call 15; refine (live_any _).mono ?_; rintro e w2 ⟨rfl, hb2⟩)
            go_ret
            exact ⟨rfl, chain hbB hb2⟩

/-- What a slice of slices of texts that came in reads as. -/
theorem open_lists {H : Type} {enc : TypeId × Value → H} {P : Program} {w : World} {base : Nat} {spare : Nat → Bool} {held : Bool} {T M E : TypeId} {fuel : Nat} {ao : Option Addr} {len cap : Nat} {x : DataW H × List MemPlace}
    (ht : P.underlying T = some (.slice M)) (hm : P.underlying M = some (.slice E)) (he : P.underlying E = some .string) (hc : P.cellsOf E = 1) (hcM : P.cellsOf M = 1)
    (h : DataW.trod enc P w base spare held fuel T (Value.slice ao len cap).cells.toList = some x) :
    ∃ L : List (List ByteArray), ReadsN w (.slice ao len cap) L ∧ (∀ j, j < L.length → (L.getD j []).length ≤ maxLen) ∧ (L = [] ∨ ∃ el sp, x.1 = .slice el sp ∧ el.length = L.length) := by
  rcases Go.Deep.open_slice1 ht hcM h with ⟨hcs, _⟩ | ⟨a, l, c, m, n, V, D, Pl, hcs, _, hl, hmx, hmm, hx, hall⟩
  · simp [Value.cells] at hcs
    obtain ⟨rfl, rfl, rfl⟩ := hcs
    exact ⟨[], .inl ⟨rfl, _, _, rfl⟩, fun j hj => by simp at hj, .inl rfl⟩
  · simp [Value.cells] at hcs
    obtain ⟨rfl, rfl, rfl⟩ := hcs
    have hlm : len ≤ m := by rw [hmm]; split <;> omega
    have each : ∀ i, i < len → ∃ xs : List ByteArray, ∃ ai k cp', w.cell? (a.add i) = some (.slice ai k cp') ∧ Reads w (.slice ai k cp') xs ∧ xs.length ≤ maxLen := by
      intro i hi
      obtain ⟨h1, h2⟩ := hall i (by omega)
      have sh : ∃ ai k cp', V i = .slice ai k cp' := by
        rcases open_strings hm he hc h2 with ⟨e, _⟩ | ⟨a', l', c', ss, e, _⟩
        · simp at e; exact ⟨_, _, _, e⟩
        · simp at e; exact ⟨_, _, _, e⟩
      obtain ⟨ai, k, cp', e⟩ := sh
      rw [e] at h1 h2
      obtain ⟨xs, r1, r2, _⟩ := open_strs_as (T := M) (E := E) (ao := ai) (len := k) (cap := cp') hm he hc (by simpa [Value.cells] using h2)
      exact ⟨xs, ai, k, cp', h1, r1, r2⟩
    obtain ⟨f, hf⟩ := Go.Deep.choose_lt (α := List ByteArray) each
    have hget : ∀ i, i < len → ((List.range len).map f).getD i [] = f i := fun i hi => by simp [hi]
    have hlen : ((List.range len).map f).length = len := by simp
    refine ⟨(List.range len).map f, ?_, fun j hj => ?_, .inr ⟨_, _, by rw [hx], by simp⟩⟩
    · by_cases h0 : len = 0
      · subst h0
        exact .inl ⟨by simp, _, _, rfl⟩
      · obtain ⟨b, off, spot⟩ := a
        obtain ⟨_, _, _, hc0, _⟩ := hf 0 (by omega)
        have hspot : spot = none := by simpa [Addr.add] using World.cell?_spot hc0
        subst hspot
        refine .inr ⟨b, off, cap, by rw [hlen], fun i hi => ?_⟩
        rw [hlen] at hi
        rw [hget i hi]
        obtain ⟨ai, k, cp', h1, h2, _⟩ := hf i hi
        have hadd : (⟨b, off, none⟩ : Addr).add i = ⟨b, off + i, none⟩ := by unfold Addr.add; split <;> simp_all
        rw [hadd] at h1
        exact ⟨ai, k, cp', h1, h2⟩
    · rw [hlen] at hj
      rw [hget j hj]
      obtain ⟨_, _, _, _, _, h3⟩ := hf j hj
      exact h3

theorem bulk_pos {H : Type} (d : DataW H) : 1 ≤ Rows.uptoBulk d := by
  cases d with
  | lit l => cases l <;> simp [Rows.uptoBulk]
  | _ => simp [Rows.uptoBulk]
theorem bulk_length {H : Type} : ∀ ds : List (DataW H), ds.length ≤ Rows.uptoBulkAll ds
  | [] => by simp
  | d :: r => by
    have h1 := bulk_pos d
    have h2 := bulk_length r
    simp only [Rows.uptoBulkAll, List.length_cons]
    omega
theorem small {H : Type} {el sp : List (DataW H)} (hk : Rows.uptoSmall H [.slice el sp] = true) : el.length ≤ 1048576 := by
  have h : Rows.uptoBulkAll [DataW.slice el sp] ≤ 1048576 := of_decide_eq_true hk
  have h1 := bulk_length el
  simp only [Rows.uptoBulkAll, Rows.uptoBulk] at h
  omega

theorem own : ownKnob Try.prog.godebug = none := by kernel_rfl
theorem laidOut : laidOutB Try.prog = true := by kernel_rfl

theorem contract (H : Type) (enc : TypeId × Value → H) (W : World) (base : Nat) (args : Array Value) (ds gs : List (DataW H)) (before : List MemPlace)
    (hval : ∀ (j : Nat) t v, Try.f8.params[j]? = some t → args[j]? = some v → Value.okWide Try.prog W .any base t v)
    (hW : DataW.Whole enc Try.prog Try.f8.params.toList Rows.packNestedSpec.vars false W args.toList ds gs before) (hk : Rows.uptoSmall H (ds ++ gs) = true) :
    Calls Try.prog 8 args W fun e W' => ∃ v, e = .returned v ∧ Rows.packNestedSpec.post enc Try.prog Try.f8 false true false false W args v W' := by
  have hW' := hW
  obtain ⟨p, q, hA0, hV, rfl, hfz, hnd⟩ := hW
  have hA : DataW.TrodAll enc Try.prog W 0 (fun _ => true) true Try.f8.params.toList args.toList ds p := hA0
  rw [Try.params8] at hA hval
  obtain ⟨v0, vs0, d0, ds0, p0, q0, hargs, rfl, rfl, h0, r0⟩ := trodAll_cons hA
  obtain ⟨rfl, rfl, rfl⟩ := trodAll_nil r0
  obtain rfl : args = #[v0] := by cases args; simp_all
  obtain ⟨rfl, rfl⟩ := trodVars_none hV
  have k0 := h0
  have lt0 : ∀ x ∈ p0, x.block < W.heap.size := by obtain ⟨m, hm⟩ := k0; exact DataW.trod_lt m _ _ _ hm
  obtain ⟨a0, len0, cap0, rfl⟩ := okWide_slice Try.underlying44 (hval 0 44 v0 rfl rfl)
  obtain ⟨fuel0, hf0⟩ := h0
  obtain ⟨L, hr, hm, hd⟩ := open_lists (T := 44) (M := 22) (E := 9) Try.underlying44 Try.underlying22 Try.underlying9 (by kernel_rfl) (by kernel_rfl) hf0
  clear hA0
  simp only [List.append_nil] at hW' hk
  have hL : L.length ≤ 1048576 := by
    rcases hd with rfl | ⟨el, sp, e1, e2⟩
    · simp
    · simp only at e1
      subst e1
      rw [← e2]
      exact small hk
  refine (walk _ L W hr hL hm).mono fun e W' ⟨he, bel⟩ => ?_
  subst he
  exact ⟨_, rfl, _, _, _, [], _, [], hW', trodAll_mk1 (shut_bool Try.underlying4 _), (trodAll_cons_mk (Below.trod laidOut (by kernel_rfl) (of_decide_eq_true (by kernel_rfl)) k0 bel lt0) trodAll_mk0), rfl, bel.frame _, fun h => by cases h⟩

set_option maxRecDepth 100000 in
theorem lifted (os : Os) (started : os.Started) (H : Type) (enc : TypeId × Value → H) (F : Stop.Interp) :
    ReturnsInHanded {} Try.checked os 8 .any ((Rows.OpenSpec.upto Rows.packNestedSpec).pre6 enc Try.prog Try.f8 Rows.packNestedUptoRow.domain false) (((Rows.OpenSpec.upto Rows.packNestedSpec).at F).post enc Try.prog Try.f8 false true false false) := by
  refine returnsInHanded_of_cond (C := Try.checked) (s := Rows.OpenSpec.upto Rows.packNestedSpec) (k := Rows.uptoSmall) rfl own started (by kernel_rfl) Try.func8
    (OpenSpec.witness (enc := enc) (C := Try.checked) (s := Rows.OpenSpec.upto Rows.packNestedSpec) (k := Rows.uptoSmall) rfl false ⟨#[], #[.slice none 0 0], []⟩ 8 (by kernel_rfl) (by kernel_rfl) (by kernel_rfl)
      (x := ([.nil], [], [])) (by kernel_rfl) rfl (by kernel_rfl)) ?_
  intro W base args ds gs before hval hW _ hk _
  exact contract H enc W base args ds gs before hval hW hk

theorem holds : Rows.PackNestedUptoSaid :=
  OpenClaim.holds_of_cond 8 Try.f8 rfl rfl rfl rfl rfl rfl rfl ⟨rfl, rfl, rfl, rfl, rfl⟩ rfl rfl rfl rfl rfl (by kernel_rfl) Try.func8 (by kernel_rfl)
    (of_decide_eq_true (by kernel_rfl)) (by unfold Func.isWrapper; first | (rw [if_pos (by decide +kernel)]; kernel_rfl) | (rw [if_neg (by decide +kernel)]; exact ⟨rfl, rfl⟩))
    (fun os started H enc _ F => lifted os started H enc F)
end Go.Proofs.Ythkkdbcflfhmaab.packNested
namespace Go.Proofs.Ythkkdbcflfhmaab
theorem packNested_holds : Rows.PackNestedUptoSaid := packNested.holds
#print axioms packNested_holds
end Go.Proofs.Ythkkdbcflfhmaab
