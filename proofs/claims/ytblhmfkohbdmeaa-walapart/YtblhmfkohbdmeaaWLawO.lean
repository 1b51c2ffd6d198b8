/-
  found.
-/
import Derived.Test.YtblhmfkohbdmeaaWLawL
namespace Go.Proofs.Ytblhmfkohbdmeaa
open Go.RowKit Go.Maps

section
variable {W0 W W' : World} {A : PA} {wl pl : Bool} {s : DevS} {ja : Int} {M : Nat → List ByteArray} {vl : Value} {late : List WrD} {x : Nat} {y : Nat → Sec}

/-- Another journal on the same device was used. -/
theorem IsPa.stepX (h : IsPa W0 W A wl pl s ja M vl late) (hx : IsWal W x A.p s.age false) (hxl : W0.heap.size ≤ x) (hne : A.r ≠ x) (hxK : ∀ g o, A.K g = some o → g ≠ x) (hd : IsDev W' A.p A.bs A.bw s) (ho : Only [x, A.p, A.bs, A.bw] W W') : IsPa W0 W' A wl pl s ja M vl late := by
  have hty : ∀ k ∈ [x, A.p, A.bs, A.bw], ∀ (cur : Array Value) (t : TypeId), W.heap[k]? = some (.cells cur t) → t = 80 ∨ t = 71 := dw_types (A := { A with r := x }) h.dev hx
  have hk : KeepT W W' := keepT_only ho fun k hk cur t hc => by
    rcases hty k hk cur t hc with rfl | rfl <;> decide
  have hfree : ∀ {g : Nat} {cur : Array Value} {t : TypeId}, W.heap[g]? = some (.cells cur t) → t ≠ 80 → t ≠ 71 → g ∉ [x, A.p, A.bs, A.bw] := fun hg h1 h2 hm => by
    rcases hty _ hm _ _ hg with e | e
    · exact h1 e
    · exact h2 e
  have ha := h.wal.apart h.dev
  obtain ⟨cur, hc, hm⟩ := h.may
  refine ⟨hd, h.wal.kept ho (by simp at ha ⊢; omega), only_heap h.str ho (hfree h.str (by decide) (by decide)), ⟨cur, only_heap hc ho (hfree hc (by decide) (by decide)), fun i hi => ?_⟩, h.late.keepT hk, h.n, h.lo, h.cap, ?_, h.lq, h.lr, h.lp, h.ls, h.lw, h.lg, fun g o hg => ?_⟩
  · obtain ⟨u, h1, h2⟩ := hm i hi
    exact ⟨u, h1, h2.keepT hk⟩
  · exact h.b.trans (ho.below h.b.size (by have := h.lp; have := h.ls; have := h.lw; simp; omega))
  · obtain ⟨h1, h2⟩ := h.kp g o hg
    have h3 := hxK g o hg
    exact ⟨only_heap h1 ho (fun hm => h2 (by simp at hm ⊢; omega)), h2⟩

/-- All sectors are of what may be. -/
def CaseA (N : Nat) (M : Nat → List ByteArray) (y : Nat → Sec) : Prop := ∀ i, i < N → mk (y i) ∈ M i
/-- The Commit under way is whole. -/
def CaseB (N : Nat) (M : Nat → List ByteArray) (late : List WrD) (y : Nat → Sec) : Prop := late ≠ [] ∧ OkW N late ∧ ∀ i, i < N → (∀ t, fOf late i = some t → y i = t) ∧ (fOf late i = none → mk (y i) ∈ M i)

theorem caseB_same {N : Nat} (h : CaseB N M late y) {i : Nat} (hi : i < N) {o : WrD} (ho : o ∈ late) (hk : o.k = (i : Int)) : mk (y i) = o.x := by
  have := fOf_mem h.2.1 ho
  rw [hk] at this
  rw [(h.2.2 i hi).1 _ this, mk_data]
theorem caseB_in {N : Nat} (h : CaseB N M late y) {i : Nat} (hi : i < N) (hn : mk (y i) ∉ M i) : ∃ o ∈ late, o.k = (i : Int) := by
  cases hf : fOf late i with
  | none => exact absurd ((h.2.2 i hi).2 hf) hn
  | some t =>
    obtain ⟨o, ho, e, _⟩ := fOf_some hf
    have g := good_parts (h.2.1.1 o ho)
    exact ⟨o, ho, by omega⟩

/-- The first m are what was found. -/
def Mz (M : Nat → List ByteArray) (y : Nat → Sec) (m i : Nat) : List ByteArray := if i < m then [mk (y i)] else M i
theorem Mz_zero : Mz M y 0 = M := by funext i; unfold Mz; rw [if_neg (by omega)]
theorem Mz_succ (m : Nat) : Mz M y (m + 1) = setM (Mz M y m) m [mk (y m)] := by
  funext i
  unfold Mz setM
  by_cases h : i = m
  · subst h
    rw [if_pos (by omega), if_pos rfl]
  · rw [if_neg h]
    dsimp only
    by_cases h2 : i < m
    · rw [if_pos (by omega), if_pos h2]
    · rw [if_neg (by omega), if_neg h2]
theorem IsPa.congrM {M' : Nat → List ByteArray} (h : IsPa W0 W A wl pl s ja M vl late) (hM : ∀ i, i < A.N → M i = M' i) : IsPa W0 W A wl pl s ja M' vl late := by
  obtain ⟨cur, hc, hm⟩ := h.may
  refine ⟨h.dev, h.wal, h.str, ⟨cur, hc, fun i hi => ?_⟩, h.late, h.n, h.lo, h.cap, h.b, h.lq, h.lr, h.lp, h.ls, h.lw, h.lg, h.kp⟩
  rw [← hM i hi]
  exact hm i hi

set_option maxRecDepth 20000 in
set_option maxHeartbeats 8000000 in
theorem found_any (h : IsPa W0 W A wl pl s ja M vl late) (hx : IsWal W x A.p s.age false) (hxl : W0.heap.size ≤ x) (hne : A.r ≠ x) (hxK : ∀ g o, A.K g = some o → g ≠ x) (hu : s.up = true) (hC : Clean A.N y s) (hy : CaseA A.N M y ∨ CaseB A.N M late y) (hM : ∀ i, (M i).length ≤ 5864062014800) (hll : late.length ≤ 5864062014800) :
    Calls Try.prog 51 #[.pointer (some ⟨A.q, 0, none⟩), .pointer (some ⟨x, 0, none⟩)] W fun e w' => e = .returned (.bool true) ∧ IsP W0 w' { A with r := x } false false s (fun i => [mk (y i)]) (.slice none 0 0) [] := by
  have hN8 : A.N ≤ 8192 := by have := h.dev.hi; have := h.n; omega
  have hcap := h.cap
  have hNn := h.n
  obtain ⟨i0, hi, hz0, hz1, hz2⟩ := info_parts Try.infoS
  obtain ⟨aoL, cpL, rfl, _, _⟩ := id h.late
  have HXK : Hid (∀ g o, A.K g = some o → g ≠ x) := hxK
  have hst : ∀ wr, IsDev wr A.p A.bs A.bw s → Only [x, A.p, A.bs, A.bw] W wr → IsPa W0 wr A wl pl s ja M (.slice aoL late.length cpL) late := fun wr hd ho => h.stepX hx hxl hne hxK hd ho
  have HST : Hid (∀ wr, IsDev wr A.p A.bs A.bw s → Only [x, A.p, A.bs, A.bw] W wr → IsPa W0 wr A wl pl s ja M (.slice aoL late.length cpL) late) := hst
  have HY : Hid (CaseA A.N M y ∨ CaseB A.N M late y) := hy
  have HC : Hid (Clean A.N y s) := hC
  have lx := heap_lt hx
  have lp := h.dev.ltp
  have ls := h.dev.lts
  have lw := h.dev.ltw
  have hd0 := h.dev
  obtain ⟨c0, c1, c2, c3, c4⟩ := h.cells
  have hgl : A.gm < W.heap.size := by
    obtain ⟨cur, hc, _⟩ := h.may
    exact heap_lt hc
  clear hst hy hC h
  go_enter Try.func51, Try.ntmps51
  go_wp2_with fail
  have hwb0 : Hid (CaseB A.N M late y → decide (0 < late.length) = true) := fun hB => by
    have : late.length ≠ 0 := fun e => hB.1 (List.eq_nil_of_length_eq_zero e)
    simp
    omega
  go_loopw [5, 6, 7, 8] (fun vw vn vi i wr => ∃ (k : Nat) (wb nb : Bool), k ≤ A.N ∧ i = .int .i64 (k : Int) ∧ vw = .bool wb ∧ vn = .bool nb ∧ (CaseA A.N M y → nb = true) ∧ (CaseB A.N M late y → wb = true) ∧ wr.ownsRow W.heap.size 9 1 vi k (sv (txs k y)) ∧ IsWal wr x A.p s.age false ∧ IsDev wr A.p A.bs A.bw s ∧ Only [x, A.p, A.bs, A.bw] W wr) (fun _ _ _ i _ => A.N - (intOf i).toNat)
  case atStart => exact ⟨0, _, true, Nat.zero_le _, rfl, rfl, rfl, fun _ => rfl, hwb0.out, World.ownsRow_nil _ _ _ _, hx, hd0, Only.refl _ _⟩
  case round =>
    obtain ⟨k, wb, nb, hk, rfl, rfl, rfl, hnb, hwb, hown, hwx, hdr, hor⟩ := hrel
    clear hwb0 hd0 hx c0 c1 c2 c3 c4
    have hP := HST.out wr hdr hor
    obtain ⟨c0, c1, c2, c3, c4⟩ := hP.cells
    obtain ⟨aoI, cpI, rfl, _⟩ := own_shape hown
    have HOW : Hid (wr.ownsRow W.heap.size 9 1 (.slice aoI k cpI) k (sv (txs k y))) := hown
    clear hown hP
    by_cases hlt : k < A.N
    · have hlt' : (k : Int) < (A.N : Int) := by omega
      have cR := wread_ok hwx hdr k (rdy_true hu) (by omega)
      rw [(HC.out.rest k hlt).2] at cR
      go_wp2_with fail
      refine cR.mono ?_
      rintro e w3 ⟨rfl, hw3, hd3, ho3⟩
      have ho3' := hor.trans ho3
      have HR3 : Hid (w3.ownsRow W.heap.size 9 1 (.slice aoI k cpI) k (sv (txs k y))) := own_only HOW.out ho3 (by simp; omega)
      have hsz3 := ho3'.size
      have HX : Hid (txs (k + 1) y = txs k y ++ [mk (y k)]) := txs_succ k y
      clear cR hwx hdr hor HOW ho3 c0 c1 c2 c3 c4
      go_wp2_with (first | (at_builtin; refine wpList_append_own _ rfl (.tmp 37) (.tmp 39) 62 rfl W.heap.size 9 i0 (.string ⟨#[]⟩) 1 16 Try.underlying62 hi hz0 hz1 hz2 rfl (by decide) _ _ _ rfl (HR3.out.alloc _) ⟨w3.heap.size, 0, none⟩ 1 1 [.string (mk (y k))] rfl rfl (one_new _ _ _) (one_one _ rfl) (by unfold maxLen; omega) (by omega) (by simp; omega) ?_) | go_in)
      intro v' w4 hown4 hgrow _
      have hB4 : Below W.heap.size w3 w4 := below_app hsz3 (Below.refl _ _) HR3.out hgrow
      have hown5 : w4.ownsRow W.heap.size 9 1 v' (k + 1) (sv (txs (k + 1) y)) := by
        rw [HX.out]
        simpa [sv] using hown4
      have HO5 : Hid (w4.ownsRow W.heap.size 9 1 v' (k + 1) (sv (txs (k + 1) y))) := hown5
      have hw4 : IsWal w4 x A.p s.age false := hw3.kept (only_from hB4) (not_from lx)
      have hd4 : IsDev w4 A.p A.bs A.bw s := hd3.kept (only_from hB4) (not_from lp) (not_from ls) (not_from lw)
      have ho4 : Only [x, A.p, A.bs, A.bw] W w4 := ⟨hB4.os.trans ho3'.os, hB4.tape.trans ho3'.tape, hB4.output.trans ho3'.output, Nat.le_trans ho3'.size hB4.size, fun j hj hn => (hB4.block j hj).trans (ho3'.block j hj hn)⟩
      have hP4 := HST.out w4 hd4 ho4
      have hlr := hP4.late.rd
      obtain ⟨c0, c1, c2, c3, c4⟩ := hP4.cells
      obtain ⟨aoM, cpM, m1, m2, _⟩ := hP4.mayAt k hlt
      clear hown4 hown5 hgrow hB4 hw3 hd3 HR3 HX hP4 ho3'
      go_wp2_with fail
      go_loopw [5, 11, 12] (fun vw vin i wr => ∃ (m : Nat) (wb' ib : Bool), m ≤ late.length ∧ i = .int .i64 (m : Int) ∧ vw = .bool wb' ∧ vin = .bool ib ∧ (CaseB A.N M late y → wb' = true) ∧ (∀ o ∈ late.take m, o.k = (k : Int) → ib = true) ∧ wr = w4) (fun _ _ i _ => late.length - (intOf i).toNat)
      case atStart => exact ⟨0, wb, false, Nat.zero_le _, rfl, rfl, rfl, hwb, by simp, rfl⟩
      case round =>
        obtain ⟨m, wb', ib, hm, rfl, rfl, rfl, hwb', hib, hwr⟩ := hrel
        subst hwr
        by_cases hml : m < late.length
        · have hml' : (m : Int) < (late.length : Int) := by omega
          obtain ⟨_, _, ee, _, hop⟩ := hlr
          obtain ⟨b, off, hbo, _, e0, e1⟩ := hop m late[m] (by simp [hml])
          cases ee
          subst hbo
          have HT : Hid (late.take (m + 1) = late.take m ++ [late[m]]) := take_snoc late m hml
          have HME : Hid (late[m] ∈ late) := List.getElem_mem hml
          by_cases hkk : late[m].k = (k : Int)
          · have heq : (late[m].k == (k : Int)) = true := by simpa using hkk
            have hin : ∀ o ∈ late.take (m + 1), o.k = (k : Int) → true = true := fun _ _ _ => rfl
            have hsame : CaseB A.N M late y → mk (y k) = late[m].x := fun hB => caseB_same hB hlt HME.out hkk
            have HSM : Hid (CaseB A.N M late y → mk (y k) = late[m].x) := hsame
            have HIN : Hid (∀ o ∈ late.take (m + 1), o.k = (k : Int) → true = true) := hin
            have HWB : Hid (CaseB A.N M late y → wb' = true) := hwb'
            clear hop hsame hin hwb' hib hkk hnb hwb
            cases wb' with
            | true =>
              by_cases hxx : mk (y k) = late[m].x
              · rw [← hxx] at e1
                clear hxx
                go_wp2_with fail
                go_roundw
                case rel => exact ⟨m + 1, true, true, by omega, by go_num, rfl, rfl, fun _ => rfl, HIN.out, by first | rfl | trivial⟩
                case measure => simp [intOf]; omega
              · have hx' := list_ne hxx
                have HN : Hid (CaseB A.N M late y → false = true) := fun hB => absurd (HSM.out hB) hxx
                clear hxx
                go_wp2_with fail
                go_roundw
                case rel => exact ⟨m + 1, false, true, by omega, by go_num, rfl, rfl, HN.out, HIN.out, by first | rfl | trivial⟩
                case measure => simp [intOf]; omega
            | false =>
              go_wp2_with fail
              go_roundw
              case rel => exact ⟨m + 1, false, true, by omega, by go_num, rfl, rfl, HWB.out, HIN.out, by first | rfl | trivial⟩
              case measure => simp [intOf]; omega
          · have heq : (late[m].k == (k : Int)) = false := by simpa using hkk
            have HIN : Hid (∀ o ∈ late.take (m + 1), o.k = (k : Int) → ib = true) := fun o ho hk => by
              rw [HT.out, List.mem_append, List.mem_singleton] at ho
              rcases ho with ho | rfl
              · exact hib o ho hk
              · exact absurd hk hkk
            have HWB : Hid (CaseB A.N M late y → wb' = true) := hwb'
            clear hop hwb' hib hkk hnb hwb
            go_wp2_with fail
            go_roundw
            case rel => exact ⟨m + 1, wb', ib, by omega, by go_num, rfl, rfl, HWB.out, HIN.out, by first | rfl | trivial⟩
            case measure => simp [intOf]; omega
        · have hml' : ¬ (m : Int) < (late.length : Int) := by omega
          have hib' : ∀ o ∈ late, o.k = (k : Int) → ib = true := by
            obtain rfl : m = late.length := by omega
            rw [List.take_length] at hib
            exact hib
          have HIB : Hid (∀ o ∈ late, o.k = (k : Int) → ib = true) := hib'
          have HNB : Hid (CaseA A.N M y → nb = true) := hnb
          have HWB : Hid (CaseB A.N M late y → wb' = true) := hwb'
          have cH := lhas_any m2 (hM k) (mk (y k))
          clear hib hib' hnb hwb hwb' hlr
          go_wp2_with fail
          refine cH.mono ?_
          rintro e w' ⟨⟨b, rfl, hb⟩, hw⟩
          rw [hw]
          clear hw w' cH
          have HBB : Hid (b = true ↔ mk (y k) ∈ M k) := hb
          clear hb
          cases b with
          | true =>
            go_wp2_with fail
            go_roundw
            case rel => exact ⟨k + 1, wb', nb, by omega, by go_num, rfl, rfl, HNB.out, HWB.out, HO5.out, hw4, hd4, ho4⟩
            case measure => simp [intOf]; omega
          | false =>
            have hnm : mk (y k) ∉ M k := fun h => by
              have := HBB.out.2 h
              cases this
            have hibt : ib = true := by
              rcases HY.out with hA | hB
              · exact absurd (hA k hlt) hnm
              · obtain ⟨o, ho, hk'⟩ := caseB_in hB hlt hnm
                exact HIB.out o ho hk'
            have HNA : Hid (CaseA A.N M y → false = true) := fun hA => absurd (hA k hlt) hnm
            subst hibt
            clear hnm
            go_wp2_with fail
            go_roundw
            case rel => exact ⟨k + 1, wb', false, by omega, by go_num, rfl, rfl, HNA.out, HWB.out, HO5.out, hw4, hd4, ho4⟩
            case measure => simp [intOf]; omega
    · obtain rfl : k = A.N := by omega
      have hlt' : ¬ (A.N : Int) < (A.N : Int) := by omega
      have hwn : (!wb && !nb) = false := by
        rcases HY.out with hA | hB
        · rw [hnb hA]; simp
        · rw [hwb hB]; simp
      have hP0 := HST.out wr hdr hor
      rw [← Mz_zero (M := M) (y := y)] at hP0
      have HP0 : Hid (IsPa W0 wr A wl pl s ja (Mz M y 0) (.slice aoL late.length cpL) late) := hP0
      have hszr := hor.size
      obtain ⟨_, _, ee, haoI⟩ := own_shape HOW.out
      cases ee
      obtain ⟨gI, hgi, _, _, _, _⟩ := haoI (by have := hP0.lo; omega)
      subst hgi
      clear hP0 haoI hnb hwb HY
      cases wb with
      | true =>
        cases nb with
        | true =>
          go_wp2_with fail
          go_loopw [13] (fun i wz => ∃ m : Nat, m ≤ A.N ∧ i = .int .i64 (m : Int) ∧ IsPa W0 wz A wl pl s ja (Mz M y m) (.slice aoL late.length cpL) late ∧ IsWal wz x A.p s.age false ∧ wz.ownsRow W.heap.size 9 1 (.slice (some ⟨gI, 0, none⟩) A.N cpI) A.N (sv (txs A.N y)) ∧ W.heap.size ≤ wz.heap.size) (fun i _ => A.N - (intOf i).toNat)
          case atStart => exact ⟨0, Nat.zero_le _, rfl, HP0.out, hwx, HOW.out, hszr⟩
          case round =>
            obtain ⟨m, hm, rfl, hP, hwz, hown, hsz⟩ := hrel
            clear HP0 hwx HOW hszr hdr hor c0 c1 c2 c3 c4
            obtain ⟨c0, c1, c2, c3, c4⟩ := hP.cells
            by_cases hmN : m < A.N
            · have hmN' : (m : Int) < (A.N : Int) := by omega
              have hgI : wr.cell? ⟨gI, m, none⟩ = some (.string (mk (y m))) := by
                obtain ⟨_, _, ee, hao⟩ := own_shape hown
                cases ee
                obtain ⟨g', e', _, _, _, hcell⟩ := hao (by omega)
                cases e'
                rw [hcell m hmN, sv_at hmN]
              have hgl2 := World.block_lt_of_cell? wr _ hgI
              have hglo : W.heap.size ≤ gI := by
                obtain ⟨_, h2⟩ := hown
                rcases h2 with ⟨e, _⟩ | ⟨g', cap', cur', e, hb, _⟩
                · cases e
                · cases e; exact hb
              have hPd : IsPa W0 ((wr.alloc (.cells #[.string (mk (y m))] 9)).drew) A wl pl s ja (Mz M y m) (.slice aoL late.length cpL) late := hP.below (((Below.refl _ wr).alloc (Nat.le_refl _) _).drew)
              have hru : RdT ((wr.alloc (.cells #[.string (mk (y m))] 9)).drew) (.slice (some ⟨wr.heap.size, 0, none⟩) 1 1) [mk (y m)] := ⟨_, _, rfl, Nat.le_refl _, fun i z hz => by
                match i, hz with
                | 0, hz => simp at hz; subst hz; exact ⟨wr.heap.size, _, rfl, heap_alloc_last wr _, rfl⟩⟩
              have hPn := hPd.setMay hmN hru
              rw [← Mz_succ] at hPn
              obtain ⟨aoj, cpj, hcj, _, hfj⟩ := hPd.mayAt m hmN
              have hoA : Only [A.gm] wr (((wr.alloc (.cells #[.string (mk (y m))] 9)).drew).setCell ⟨A.gm, m, none⟩ (.slice (some ⟨wr.heap.size, 0, none⟩) 1 1)) := ((Only.alloc _ _ _).trans (Only.drew _ _)).trans (Only.setCell _ (by simp) _)
              have hownN := own_only hown hoA (by simp; exact hgl)
              have hwN : IsWal (((wr.alloc (.cells #[.string (mk (y m))] 9)).drew).setCell ⟨A.gm, m, none⟩ (.slice (some ⟨wr.heap.size, 0, none⟩) 1 1)) x A.p s.age false := hwz.kept hoA (by
                obtain ⟨cur, hc, _⟩ := hP.may
                simp
                exact q_ne hwz hc (by decide))
              have hszN : W.heap.size ≤ (((wr.alloc (.cells #[.string (mk (y m))] 9)).drew).setCell ⟨A.gm, m, none⟩ (.slice (some ⟨wr.heap.size, 0, none⟩) 1 1)).heap.size := Nat.le_trans hsz hoA.size
              have hqg : A.q ≠ A.gm := by
                obtain ⟨cur, hc, _⟩ := hP.may
                exact q_ne hP.str hc (by decide)
              have hS0 : wr.drew.cell? ⟨A.q, 2, none⟩ = some (.slice (some ⟨A.gm, 0, none⟩) A.N A.cp) ∧ wr.drew.cell? ⟨gI, m, none⟩ = some (.string (mk (y m))) := ⟨c2, hgI⟩
              have hS1 : ((wr.alloc (.cells #[.string (mk (y m))] 9)).drew).cell? ⟨A.q, 2, none⟩ = some (.slice (some ⟨A.gm, 0, none⟩) A.N A.cp) ∧ ((wr.alloc (.cells #[.string (mk (y m))] 9)).drew).cell? ⟨gI, m, none⟩ = some (.string (mk (y m))) := by
                have hbb : Below wr.heap.size wr ((wr.alloc (.cells #[.string (mk (y m))] 9)).drew) := ((Below.refl _ wr).alloc (Nat.le_refl _) _).drew
                exact ⟨(hbb.cell (p := ⟨A.q, 2, none⟩) (heap_lt hP.str)).trans c2, (hbb.cell (p := ⟨gI, m, none⟩) hgl2).trans hgI⟩
              have hS2 : (((wr.alloc (.cells #[.string (mk (y m))] 9)).drew).setCell ⟨A.gm, m, none⟩ (.slice (some ⟨wr.heap.size, 0, none⟩) 1 1)).cell? ⟨A.q, 2, none⟩ = some (.slice (some ⟨A.gm, 0, none⟩) A.N A.cp) ∧ (((wr.alloc (.cells #[.string (mk (y m))] 9)).drew).setCell ⟨A.gm, m, none⟩ (.slice (some ⟨wr.heap.size, 0, none⟩) 1 1)).cell? ⟨gI, m, none⟩ = some (.string (mk (y m))) :=
                ⟨(World.cell?_of_block (a := ⟨A.q, 2, none⟩) (hoA.block A.q (heap_lt hP.str) (by simpa using hqg))).trans c2, (World.cell?_of_block (a := ⟨gI, m, none⟩) (hoA.block gI hgl2 (by simp; omega))).trans hgI⟩
              have HPn : Hid _ := hPn
              have HON : Hid _ := hownN
              clear hPn hPd hru hP c0 c1 c3 c4 hwz hown hoA hownN hqg hglo hgl2 hsz
              go_wp2_with fail
              clear c2 hgI
              go_region_held3 (fun W' => W'.cell? ⟨A.q, 2, none⟩ = some (.slice (some ⟨A.gm, 0, none⟩) A.N A.cp) ∧ W'.cell? ⟨gI, m, none⟩ = some (.string (mk (y m)))) (first | assumption | go_keep) (fail)
              clear hS0 hS1 hS2 hcj hfj
              go_wp2_with fail
              go_roundw
              case rel => exact ⟨m + 1, by omega, by go_num, HPn.out, hwN, HON.out, hszN⟩
              case measure => simp [intOf]; omega
            · obtain rfl : m = A.N := by omega
              have hmN' : ¬ (A.N : Int) < (A.N : Int) := by omega
              have hP1 := (hP.congrM (M' := fun i => [mk (y i)]) (fun i hi => by unfold Mz; rw [if_pos hi])).setLate (RdWT.nil wr)
              have hz3 := hP.frz 3
              have hwz1 : IsWal (wr.setCell ⟨A.q, 3, none⟩ (.slice none 0 0)) x A.p s.age false := hwz.kept (Only.setCell (S := [A.q]) wr (p := ⟨A.q, 3, none⟩) (by simp) _) (by simp; exact (q_ne hP.str hwz (by decide)).symm)
              obtain ⟨e0, e1, e2, e3, e4⟩ := hP1.cells
              have hz4 := hP1.frz 4
              have hP2 := hP1.setLost false
              have hwz2 : IsWal ((wr.setCell ⟨A.q, 3, none⟩ (.slice none 0 0)).setCell ⟨A.q, 4, none⟩ (.bool false)) x A.p s.age false := hwz1.kept (Only.setCell (S := [A.q]) _ (p := ⟨A.q, 4, none⟩) (by simp) _) (by simp; exact (q_ne hP1.str hwz1 (by decide)).symm)
              obtain ⟨f0, f1, f2, f3, f4⟩ := hP2.cells
              have hz1' := hP2.frz 1
              have HP3 : Hid _ := hP2.setWal hwz2 hxl HXK.out
              clear hP hP1 hP2 hwz hwz1 hwz2 hown
              go_wp2_with fail
              go_ret
              exact ⟨rfl, HP3.out⟩
        | false =>
          go_wp2_with fail
          go_loopw [13] (fun i wz => ∃ m : Nat, m ≤ A.N ∧ i = .int .i64 (m : Int) ∧ IsPa W0 wz A wl pl s ja (Mz M y m) (.slice aoL late.length cpL) late ∧ IsWal wz x A.p s.age false ∧ wz.ownsRow W.heap.size 9 1 (.slice (some ⟨gI, 0, none⟩) A.N cpI) A.N (sv (txs A.N y)) ∧ W.heap.size ≤ wz.heap.size) (fun i _ => A.N - (intOf i).toNat)
          case atStart => exact ⟨0, Nat.zero_le _, rfl, HP0.out, hwx, HOW.out, hszr⟩
          case round =>
            obtain ⟨m, hm, rfl, hP, hwz, hown, hsz⟩ := hrel
            clear HP0 hwx HOW hszr hdr hor c0 c1 c2 c3 c4
            obtain ⟨c0, c1, c2, c3, c4⟩ := hP.cells
            by_cases hmN : m < A.N
            · have hmN' : (m : Int) < (A.N : Int) := by omega
              have hgI : wr.cell? ⟨gI, m, none⟩ = some (.string (mk (y m))) := by
                obtain ⟨_, _, ee, hao⟩ := own_shape hown
                cases ee
                obtain ⟨g', e', _, _, _, hcell⟩ := hao (by omega)
                cases e'
                rw [hcell m hmN, sv_at hmN]
              have hgl2 := World.block_lt_of_cell? wr _ hgI
              have hglo : W.heap.size ≤ gI := by
                obtain ⟨_, h2⟩ := hown
                rcases h2 with ⟨e, _⟩ | ⟨g', cap', cur', e, hb, _⟩
                · cases e
                · cases e; exact hb
              have hPd : IsPa W0 ((wr.alloc (.cells #[.string (mk (y m))] 9)).drew) A wl pl s ja (Mz M y m) (.slice aoL late.length cpL) late := hP.below (((Below.refl _ wr).alloc (Nat.le_refl _) _).drew)
              have hru : RdT ((wr.alloc (.cells #[.string (mk (y m))] 9)).drew) (.slice (some ⟨wr.heap.size, 0, none⟩) 1 1) [mk (y m)] := ⟨_, _, rfl, Nat.le_refl _, fun i z hz => by
                match i, hz with
                | 0, hz => simp at hz; subst hz; exact ⟨wr.heap.size, _, rfl, heap_alloc_last wr _, rfl⟩⟩
              have hPn := hPd.setMay hmN hru
              rw [← Mz_succ] at hPn
              obtain ⟨aoj, cpj, hcj, _, hfj⟩ := hPd.mayAt m hmN
              have hoA : Only [A.gm] wr (((wr.alloc (.cells #[.string (mk (y m))] 9)).drew).setCell ⟨A.gm, m, none⟩ (.slice (some ⟨wr.heap.size, 0, none⟩) 1 1)) := ((Only.alloc _ _ _).trans (Only.drew _ _)).trans (Only.setCell _ (by simp) _)
              have hownN := own_only hown hoA (by simp; exact hgl)
              have hwN : IsWal (((wr.alloc (.cells #[.string (mk (y m))] 9)).drew).setCell ⟨A.gm, m, none⟩ (.slice (some ⟨wr.heap.size, 0, none⟩) 1 1)) x A.p s.age false := hwz.kept hoA (by
                obtain ⟨cur, hc, _⟩ := hP.may
                simp
                exact q_ne hwz hc (by decide))
              have hszN : W.heap.size ≤ (((wr.alloc (.cells #[.string (mk (y m))] 9)).drew).setCell ⟨A.gm, m, none⟩ (.slice (some ⟨wr.heap.size, 0, none⟩) 1 1)).heap.size := Nat.le_trans hsz hoA.size
              have hqg : A.q ≠ A.gm := by
                obtain ⟨cur, hc, _⟩ := hP.may
                exact q_ne hP.str hc (by decide)
              have hS0 : wr.drew.cell? ⟨A.q, 2, none⟩ = some (.slice (some ⟨A.gm, 0, none⟩) A.N A.cp) ∧ wr.drew.cell? ⟨gI, m, none⟩ = some (.string (mk (y m))) := ⟨c2, hgI⟩
              have hS1 : ((wr.alloc (.cells #[.string (mk (y m))] 9)).drew).cell? ⟨A.q, 2, none⟩ = some (.slice (some ⟨A.gm, 0, none⟩) A.N A.cp) ∧ ((wr.alloc (.cells #[.string (mk (y m))] 9)).drew).cell? ⟨gI, m, none⟩ = some (.string (mk (y m))) := by
                have hbb : Below wr.heap.size wr ((wr.alloc (.cells #[.string (mk (y m))] 9)).drew) := ((Below.refl _ wr).alloc (Nat.le_refl _) _).drew
                exact ⟨(hbb.cell (p := ⟨A.q, 2, none⟩) (heap_lt hP.str)).trans c2, (hbb.cell (p := ⟨gI, m, none⟩) hgl2).trans hgI⟩
              have hS2 : (((wr.alloc (.cells #[.string (mk (y m))] 9)).drew).setCell ⟨A.gm, m, none⟩ (.slice (some ⟨wr.heap.size, 0, none⟩) 1 1)).cell? ⟨A.q, 2, none⟩ = some (.slice (some ⟨A.gm, 0, none⟩) A.N A.cp) ∧ (((wr.alloc (.cells #[.string (mk (y m))] 9)).drew).setCell ⟨A.gm, m, none⟩ (.slice (some ⟨wr.heap.size, 0, none⟩) 1 1)).cell? ⟨gI, m, none⟩ = some (.string (mk (y m))) :=
                ⟨(World.cell?_of_block (a := ⟨A.q, 2, none⟩) (hoA.block A.q (heap_lt hP.str) (by simpa using hqg))).trans c2, (World.cell?_of_block (a := ⟨gI, m, none⟩) (hoA.block gI hgl2 (by simp; omega))).trans hgI⟩
              have HPn : Hid _ := hPn
              have HON : Hid _ := hownN
              clear hPn hPd hru hP c0 c1 c3 c4 hwz hown hoA hownN hqg hglo hgl2 hsz
              go_wp2_with fail
              clear c2 hgI
              go_region_held3 (fun W' => W'.cell? ⟨A.q, 2, none⟩ = some (.slice (some ⟨A.gm, 0, none⟩) A.N A.cp) ∧ W'.cell? ⟨gI, m, none⟩ = some (.string (mk (y m)))) (first | assumption | go_keep) (fail)
              clear hS0 hS1 hS2 hcj hfj
              go_wp2_with fail
              go_roundw
              case rel => exact ⟨m + 1, by omega, by go_num, HPn.out, hwN, HON.out, hszN⟩
              case measure => simp [intOf]; omega
            · obtain rfl : m = A.N := by omega
              have hmN' : ¬ (A.N : Int) < (A.N : Int) := by omega
              have hP1 := (hP.congrM (M' := fun i => [mk (y i)]) (fun i hi => by unfold Mz; rw [if_pos hi])).setLate (RdWT.nil wr)
              have hz3 := hP.frz 3
              have hwz1 : IsWal (wr.setCell ⟨A.q, 3, none⟩ (.slice none 0 0)) x A.p s.age false := hwz.kept (Only.setCell (S := [A.q]) wr (p := ⟨A.q, 3, none⟩) (by simp) _) (by simp; exact (q_ne hP.str hwz (by decide)).symm)
              obtain ⟨e0, e1, e2, e3, e4⟩ := hP1.cells
              have hz4 := hP1.frz 4
              have hP2 := hP1.setLost false
              have hwz2 : IsWal ((wr.setCell ⟨A.q, 3, none⟩ (.slice none 0 0)).setCell ⟨A.q, 4, none⟩ (.bool false)) x A.p s.age false := hwz1.kept (Only.setCell (S := [A.q]) _ (p := ⟨A.q, 4, none⟩) (by simp) _) (by simp; exact (q_ne hP1.str hwz1 (by decide)).symm)
              obtain ⟨f0, f1, f2, f3, f4⟩ := hP2.cells
              have hz1' := hP2.frz 1
              have HP3 : Hid _ := hP2.setWal hwz2 hxl HXK.out
              clear hP hP1 hP2 hwz hwz1 hwz2 hown
              go_wp2_with fail
              go_ret
              exact ⟨rfl, HP3.out⟩
      | false =>
        cases nb with
        | true =>
          go_wp2_with fail
          go_loopw [13] (fun i wz => ∃ m : Nat, m ≤ A.N ∧ i = .int .i64 (m : Int) ∧ IsPa W0 wz A wl pl s ja (Mz M y m) (.slice aoL late.length cpL) late ∧ IsWal wz x A.p s.age false ∧ wz.ownsRow W.heap.size 9 1 (.slice (some ⟨gI, 0, none⟩) A.N cpI) A.N (sv (txs A.N y)) ∧ W.heap.size ≤ wz.heap.size) (fun i _ => A.N - (intOf i).toNat)
          case atStart => exact ⟨0, Nat.zero_le _, rfl, HP0.out, hwx, HOW.out, hszr⟩
          case round =>
            obtain ⟨m, hm, rfl, hP, hwz, hown, hsz⟩ := hrel
            clear HP0 hwx HOW hszr hdr hor c0 c1 c2 c3 c4
            obtain ⟨c0, c1, c2, c3, c4⟩ := hP.cells
            by_cases hmN : m < A.N
            · have hmN' : (m : Int) < (A.N : Int) := by omega
              have hgI : wr.cell? ⟨gI, m, none⟩ = some (.string (mk (y m))) := by
                obtain ⟨_, _, ee, hao⟩ := own_shape hown
                cases ee
                obtain ⟨g', e', _, _, _, hcell⟩ := hao (by omega)
                cases e'
                rw [hcell m hmN, sv_at hmN]
              have hgl2 := World.block_lt_of_cell? wr _ hgI
              have hglo : W.heap.size ≤ gI := by
                obtain ⟨_, h2⟩ := hown
                rcases h2 with ⟨e, _⟩ | ⟨g', cap', cur', e, hb, _⟩
                · cases e
                · cases e; exact hb
              have hPd : IsPa W0 ((wr.alloc (.cells #[.string (mk (y m))] 9)).drew) A wl pl s ja (Mz M y m) (.slice aoL late.length cpL) late := hP.below (((Below.refl _ wr).alloc (Nat.le_refl _) _).drew)
              have hru : RdT ((wr.alloc (.cells #[.string (mk (y m))] 9)).drew) (.slice (some ⟨wr.heap.size, 0, none⟩) 1 1) [mk (y m)] := ⟨_, _, rfl, Nat.le_refl _, fun i z hz => by
                match i, hz with
                | 0, hz => simp at hz; subst hz; exact ⟨wr.heap.size, _, rfl, heap_alloc_last wr _, rfl⟩⟩
              have hPn := hPd.setMay hmN hru
              rw [← Mz_succ] at hPn
              obtain ⟨aoj, cpj, hcj, _, hfj⟩ := hPd.mayAt m hmN
              have hoA : Only [A.gm] wr (((wr.alloc (.cells #[.string (mk (y m))] 9)).drew).setCell ⟨A.gm, m, none⟩ (.slice (some ⟨wr.heap.size, 0, none⟩) 1 1)) := ((Only.alloc _ _ _).trans (Only.drew _ _)).trans (Only.setCell _ (by simp) _)
              have hownN := own_only hown hoA (by simp; exact hgl)
              have hwN : IsWal (((wr.alloc (.cells #[.string (mk (y m))] 9)).drew).setCell ⟨A.gm, m, none⟩ (.slice (some ⟨wr.heap.size, 0, none⟩) 1 1)) x A.p s.age false := hwz.kept hoA (by
                obtain ⟨cur, hc, _⟩ := hP.may
                simp
                exact q_ne hwz hc (by decide))
              have hszN : W.heap.size ≤ (((wr.alloc (.cells #[.string (mk (y m))] 9)).drew).setCell ⟨A.gm, m, none⟩ (.slice (some ⟨wr.heap.size, 0, none⟩) 1 1)).heap.size := Nat.le_trans hsz hoA.size
              have hqg : A.q ≠ A.gm := by
                obtain ⟨cur, hc, _⟩ := hP.may
                exact q_ne hP.str hc (by decide)
              have hS0 : wr.drew.cell? ⟨A.q, 2, none⟩ = some (.slice (some ⟨A.gm, 0, none⟩) A.N A.cp) ∧ wr.drew.cell? ⟨gI, m, none⟩ = some (.string (mk (y m))) := ⟨c2, hgI⟩
              have hS1 : ((wr.alloc (.cells #[.string (mk (y m))] 9)).drew).cell? ⟨A.q, 2, none⟩ = some (.slice (some ⟨A.gm, 0, none⟩) A.N A.cp) ∧ ((wr.alloc (.cells #[.string (mk (y m))] 9)).drew).cell? ⟨gI, m, none⟩ = some (.string (mk (y m))) := by
                have hbb : Below wr.heap.size wr ((wr.alloc (.cells #[.string (mk (y m))] 9)).drew) := ((Below.refl _ wr).alloc (Nat.le_refl _) _).drew
                exact ⟨(hbb.cell (p := ⟨A.q, 2, none⟩) (heap_lt hP.str)).trans c2, (hbb.cell (p := ⟨gI, m, none⟩) hgl2).trans hgI⟩
              have hS2 : (((wr.alloc (.cells #[.string (mk (y m))] 9)).drew).setCell ⟨A.gm, m, none⟩ (.slice (some ⟨wr.heap.size, 0, none⟩) 1 1)).cell? ⟨A.q, 2, none⟩ = some (.slice (some ⟨A.gm, 0, none⟩) A.N A.cp) ∧ (((wr.alloc (.cells #[.string (mk (y m))] 9)).drew).setCell ⟨A.gm, m, none⟩ (.slice (some ⟨wr.heap.size, 0, none⟩) 1 1)).cell? ⟨gI, m, none⟩ = some (.string (mk (y m))) :=
                ⟨(World.cell?_of_block (a := ⟨A.q, 2, none⟩) (hoA.block A.q (heap_lt hP.str) (by simpa using hqg))).trans c2, (World.cell?_of_block (a := ⟨gI, m, none⟩) (hoA.block gI hgl2 (by simp; omega))).trans hgI⟩
              have HPn : Hid _ := hPn
              have HON : Hid _ := hownN
              clear hPn hPd hru hP c0 c1 c3 c4 hwz hown hoA hownN hqg hglo hgl2 hsz
              go_wp2_with fail
              clear c2 hgI
              go_region_held3 (fun W' => W'.cell? ⟨A.q, 2, none⟩ = some (.slice (some ⟨A.gm, 0, none⟩) A.N A.cp) ∧ W'.cell? ⟨gI, m, none⟩ = some (.string (mk (y m)))) (first | assumption | go_keep) (fail)
              clear hS0 hS1 hS2 hcj hfj
              go_wp2_with fail
              go_roundw
              case rel => exact ⟨m + 1, by omega, by go_num, HPn.out, hwN, HON.out, hszN⟩
              case measure => simp [intOf]; omega
            · obtain rfl : m = A.N := by omega
              have hmN' : ¬ (A.N : Int) < (A.N : Int) := by omega
              have hP1 := (hP.congrM (M' := fun i => [mk (y i)]) (fun i hi => by unfold Mz; rw [if_pos hi])).setLate (RdWT.nil wr)
              have hz3 := hP.frz 3
              have hwz1 : IsWal (wr.setCell ⟨A.q, 3, none⟩ (.slice none 0 0)) x A.p s.age false := hwz.kept (Only.setCell (S := [A.q]) wr (p := ⟨A.q, 3, none⟩) (by simp) _) (by simp; exact (q_ne hP.str hwz (by decide)).symm)
              obtain ⟨e0, e1, e2, e3, e4⟩ := hP1.cells
              have hz4 := hP1.frz 4
              have hP2 := hP1.setLost false
              have hwz2 : IsWal ((wr.setCell ⟨A.q, 3, none⟩ (.slice none 0 0)).setCell ⟨A.q, 4, none⟩ (.bool false)) x A.p s.age false := hwz1.kept (Only.setCell (S := [A.q]) _ (p := ⟨A.q, 4, none⟩) (by simp) _) (by simp; exact (q_ne hP1.str hwz1 (by decide)).symm)
              obtain ⟨f0, f1, f2, f3, f4⟩ := hP2.cells
              have hz1' := hP2.frz 1
              have HP3 : Hid _ := hP2.setWal hwz2 hxl HXK.out
              clear hP hP1 hP2 hwz hwz1 hwz2 hown
              go_wp2_with fail
              go_ret
              exact ⟨rfl, HP3.out⟩
        | false => cases hwn
end
end Go.Proofs.Ytblhmfkohbdmeaa
