/-
  The reference's Right (layer 24), of a row that is right.
-/
import Derived.Test.YtjimolafoihnpaaDoorTsK
import Derived.Test.YtjimolafoihnpaaDoorTrF
import Derived.Test.YtjimolafoihnpaaDoorTsO
namespace Go.Proofs.YtjimolafoihnpaaDoor.tc
open Go.Maps Go.ChangeShapes Go.WideShapes Go.ChangeAt Go.RowKit Go.PlainAid

theorem fdA_at {x y : Atm} : ∀ (A : List Atm) (i j : Nat), A[j]? = some y → y.key = x.key → (A.map Atm.key).Nodup → fdA x A i = ((i + j : Nat) : Int)
  | [], _, _, h, _, _ => by simp at h
  | a :: A, i, 0, h, e, _ => by
    injection h with h
    subst h
    rw [fdA, if_pos (same_iff.2 e)]
    rfl
  | a :: A, i, j + 1, h, e, hn => by
    obtain ⟨h1, h2⟩ := List.nodup_cons.1 (by simpa using hn : (a.key :: A.map Atm.key).Nodup)
    have h' : A[j]? = some y := by simpa using h
    have hne : ¬ a.same x = true := fun q => h1 (by rw [same_iff.1 q, ← e]; exact List.mem_map.2 ⟨y, List.mem_of_getElem? h', rfl⟩)
    rw [fdA, if_neg hne, fdA_at A (i + 1) j h' e h2]
    congr 1
    omega
/-- Where the atoms of a document stand in the row. -/
theorem pos_up {A d : List Atm} (hn : (A.map Atm.key).Nodup) (hs : (d.map Atm.key).Sublist (A.map Atm.key)) {e : Nat} {x : Atm} (hx : d[e]? = some x) :
    ∃ (j : Nat) (y : Atm), A[j]? = some y ∧ y.key = x.key ∧ fdA x A 0 = (j : Int) ∧ ∀ (e' : Nat) (x' : Atm), e' < e → d[e']? = some x' → fdA x' A 0 < (j : Int) := by
  have at_ : ∀ (j : Nat) (x : Atm), (A.map Atm.key)[j]? = some x.key → ∃ y, A[j]? = some y ∧ y.key = x.key ∧ fdA x A 0 = (j : Int) := fun j x h => by
    rw [List.getElem?_map] at h
    obtain ⟨y, hy, e⟩ := Option.map_eq_some_iff.1 h
    refine ⟨y, hy, e, ?_⟩
    rw [fdA_at A 0 j hy e hn, Nat.zero_add]
  obtain ⟨j, hj⟩ := List.mem_iff_getElem?.1 (hs.subset (List.mem_map.2 ⟨x, List.mem_of_getElem? hx, rfl⟩))
  obtain ⟨y, h1, h2, h3⟩ := at_ j x hj
  refine ⟨j, y, h1, h2, h3, fun e' x' he hx' => ?_⟩
  have hp : [x'.key, x.key].Sublist (d.map Atm.key) := pair_sub.2 ⟨e', e, he, by rw [List.getElem?_map, hx']; rfl, by rw [List.getElem?_map, hx]; rfl⟩
  obtain ⟨i, k, hik, hi, hk⟩ := pair_sub.1 (hp.trans hs)
  obtain ⟨y', -, -, g3⟩ := at_ i x' hi
  obtain rfl := idx_one hn hk hj
  rw [g3]
  omega
/-- Which atoms of the row were met. -/
def Met (A : List Atm) (bs : List Bool) (d : List Atm) (e : Nat) : Prop := ∀ (e' : Nat) (x : Atm), e' < e → d[e']? = some x → ∀ j : Nat, fdA x A 0 = (j : Int) → bs[j]? = some true
theorem Met.set {A : List Atm} {bs : List Bool} {d : List Atm} {e : Nat} (h : Met A bs d e) (j : Nat) : Met A (bs.set j true) d e := fun e' x he hx i hi => by
  have := h e' x he hx i hi
  have hl := (List.getElem?_eq_some_iff.1 this).1
  rw [List.getElem?_set]
  split
  · rename_i q
    subst q
    rw [if_pos hl]
  · exact this
theorem Met.more {A : List Atm} {bs : List Bool} {d : List Atm} {e j : Nat} {x : Atm} (h : Met A bs d e) (hx : d[e]? = some x) (hj : fdA x A 0 = (j : Int)) (hl : j < bs.length) : Met A (bs.set j true) d (e + 1) := fun e' x' he hx' i hi => by
  by_cases q : e' = e
  · subst q
    rw [hx] at hx'
    injection hx' with hx'
    subst hx'
    have : i = j := by omega
    subst this
    rw [List.getElem?_set, if_pos rfl, if_pos hl]
  · exact h.set j e' x' (by omega) hx' i hi
/-- The last place. -/
def Lst (A d : List Atm) (e : Nat) (last : Int) : Prop := (e = 0 ∧ last = -1) ∨ ∃ (e' : Nat) (x : Atm), e = e' + 1 ∧ d[e']? = some x ∧ last = fdA x A 0
set_option maxRecDepth 20000 in
set_option maxHeartbeats 2000000 in
theorem right_any (v vr : Value) (L : List (List RunD)) (R : List RunD) (w : World) (hr : RdL w v L) (hR : RdN w vr R) (hL : L.length ≤ 1048576) (hl : ∀ l ∈ L, l.length ≤ 1048576 ∧ ∀ r ∈ l, r.t.size ≤ 1048576) (hn : (aTs L).length ≤ 1048576)
    (hRl : R.length ≤ 100000) (hRs : ∀ r ∈ R, r.t.size ≤ 1048576) (hc : Can R) (ha : aT R = ats R) (hA : (ats R).length ≤ 100000) (hno : ((ats R).map Atm.key).Nodup) (hb0 : ∀ x ∈ ats R, 0 ≤ x.n ∧ x.n ≤ 100000)
    (hs : ∀ l ∈ L, ((aT l).map Atm.key).Sublist ((ats R).map Atm.key)) (hz : ∀ l ∈ L, ∀ x ∈ aT l, ∀ y ∈ ats R, y.key = x.key → y.z = x.z) (hall : ∀ y ∈ ats R, ∃ l ∈ L, ∃ x ∈ aT l, y.key = x.key) :
    Calls Tryd.prog 11 #[v, vr] w fun e w' => e = .returned (.bool true) ∧ Below w.heap.size w w' := by
  have cA := atoms24_any vr R w hR hRs (by omega) (by rw [ha]; omega)
  have hzs := ats_sz hc.all
  rw [ha] at cA
  have hrn := rnA_of hc
  have hRl2 : R.length ≤ 1125899906842624 := by omega
  generalize ats R = A at *
  obtain ⟨Z, Z1, Z2, hmk⟩ := make_any (t := 58) Tryd.underlying58 infoBo rfl (by decide) (by decide) A.length (by omega)
  rw [rep_one _ _ rfl] at Z1
  obtain ⟨av, kv, rfl, hkv, hcs⟩ := hr
  clear ha hc hRs hRl
  go_enter Tryd.func11, Tryd.ntmps11
  go_wp2_with fail
  refine cA.mono ?_
  rintro e w1 ⟨va, rfl, ho1, b1⟩
  have rA1 := rda_own ho1
  have cS := rsound_any va A w1 rA1 (by omega)
  have hdec : decide ((A.map Atm.key).Nodup) = true := decide_eq_true hno
  rw [hdec] at cS
  clear cA
  go_wp2_with fail
  refine cS.mono ?_
  rintro e w2 ⟨rfl, b2⟩
  have rA2 := rA1.below b2
  have cR := Go.Proofs.YtjimolafoihnpaaDoor.runs_any va A w2 rA2 hzs hb0 hA
  rw [hrn] at cR
  clear cS hdec
  go_wp2_with fail
  refine cR.mono ?_
  rintro e w3 ⟨u3, rfl, ho3, b3⟩
  have b03 := chain (chain b1 b2) b3
  have cE := docSame_true vr u3 R w3 hRl2 (hR.below b03) (rdn_own ho3)
  clear cR
  go_wp2_with fail
  refine cE.mono ?_
  rintro e w4 ⟨rfl, b4⟩
  have b04 := chain b03 b4
  have ho4 : w4.ownsRow w.heap.size 80 4 va A.length (acs A) := own_below ho1 (chain (chain b2 b3) b4)
  obtain ⟨aa, ka, rfl⟩ := own_form ho4
  have om := own_made (e := 4) (W := w4) (B := w.heap.size) Z1 Z2 (by omega) b04.size
  have oA : (w4.alloc (.cells Z 4)).ownsRow w.heap.size 80 4 (.slice aa A.length ka) A.length (acs A) := own_below ho4 (alloc_b w4 _)
  have b05 := chain b04 (alloc_b w4 (.cells Z 4))
  clear cE ho1 ho3 ho4 rA1 rA2 b1 b2 b3 b4 b03
  obtain ⟨p, hp⟩ : ∃ p, Hid (p = w4.heap.size) := ⟨_, rfl⟩
  have hpl : Hid (w.heap.size ≤ p) := by show _ ≤ _; rw [hp.out]; exact b04.size
  go_wp2_with fail
  clear hmk
  rw [← hp.out] at om
  rw [← hp.out]
  generalize w4.alloc (.cells Z 4) = w5 at *
  have om0 : w5.ownsRow w.heap.size 4 1 (.slice (some ⟨p, 0, none⟩) A.length A.length) A.length ((List.replicate A.length false).map Value.bool) := by
    rw [List.map_replicate]
    exact om
  clear om Z1 Z2 b04 hp hR hrn hRl2 hzs hb0
  go_loopw [7] (fun iv wr => ∃ (k : Nat) (bs : List Bool), k ≤ L.length ∧ iv = .int .i64 (k : Int) ∧ Hid (bs.length = A.length) ∧ Hid (∀ l ∈ L.take k, Met A bs (aT l) (aT l).length) ∧ wr.ownsRow w.heap.size 4 1 (.slice (some ⟨p, 0, none⟩) A.length A.length) A.length (bs.map Value.bool) ∧ wr.ownsRow w.heap.size 80 4 (.slice aa A.length ka) A.length (acs A) ∧ Below w.heap.size w wr) (fun iv _ => L.length - (Go.RowKit.intOf iv).toNat)
  case atStart => exact ⟨0, _, by omega, rfl, by show _ = _; simp, fun l hl => by simp at hl, om0, oA, b05⟩
  case round =>
    obtain ⟨k, bs, hk, rfl, hbl, HM, oM, oA, hb⟩ := hrel
    clear om0 b05
    by_cases hlt : k < L.length
    · have hlt' : (k : Int) < (L.length : Int) := by omega
      have hLk : L[k]? = some L[k] := List.getElem?_eq_getElem hlt
      have hLm : L[k] ∈ L := List.getElem_mem hlt
      have htk : Hid (L.take (k + 1) = L.take k ++ [L[k]]) := List.take_succ_eq_append_getElem hlt
      obtain ⟨gb, go, uu, rfl, hgb, cu, hrn⟩ := hcs k _ hLk
      obtain ⟨hll, hlr⟩ := hl L[k] hLm
      have hdl := Nat.le_trans (aT_mem_le hLm) hn
      have hsl := hs _ hLm
      have hzl := hz _ hLm
      have cu2 := (hb.cell (p := ⟨gb, go + k, none⟩) hgb).trans cu
      obtain ⟨gl, kl, rfl, -⟩ := id hrn
      have cD := atoms24_any _ L[k] wr (hrn.below hb) hlr hll hdl
      clear hLk hcs cu hrn hll hlr hs hz
      generalize L[k] = l at *
      go_wp2_with fail
      refine cD.mono ?_
      rintro e wd ⟨ud, rfl, od, bd⟩
      obtain ⟨ad, kd, rfl⟩ := own_form od
      have hb' := chain hb bd
      replace oM := own_below oM bd
      replace oA := own_below oA bd
      have od' := own_mono od hb.size
      have Hd : Hid (∀ b, b.length = A.length → Met A b (aT l) (aT l).length → (∀ l' ∈ L.take k, Met A b (aT l') (aT l').length) → ∀ l' ∈ L.take (k + 1), Met A b (aT l') (aT l').length) := fun b _ h1 h2 l' hl' => by
        rw [htk.out] at hl'
        rcases List.mem_append.1 hl' with g | g
        · exact h2 l' g
        · obtain rfl := List.mem_singleton.1 g
          exact h1
      clear cD od bd cu2 htk hb hLm
      generalize aT l = d at *
      go_wp2_with fail
      generalize wr = wa at *
      go_loopw [9, 10] (fun lv iv wr => ∃ (e : Nat) (last : Int) (b : List Bool), e ≤ d.length ∧ lv = .int .i64 last ∧ iv = .int .i64 (e : Int) ∧ Hid (Lst A d e last) ∧ Hid (b.length = A.length) ∧ Hid (∀ l ∈ L.take k, Met A b (aT l) (aT l).length) ∧ Hid (Met A b d e) ∧ wr.ownsRow w.heap.size 4 1 (.slice (some ⟨p, 0, none⟩) A.length A.length) A.length (b.map Value.bool) ∧ wr.ownsRow w.heap.size 80 4 (.slice aa A.length ka) A.length (acs A) ∧ wr.ownsRow w.heap.size 80 4 (.slice ad d.length kd) d.length (acs d) ∧ Below w.heap.size w wr) (fun _ iv _ => d.length - (Go.RowKit.intOf iv).toNat)
      case atStart => exact ⟨0, -1, bs, by omega, rfl, rfl, .inl ⟨rfl, rfl⟩, hbl, HM, fun e' x he => by omega, oM, oA, od', hb'⟩
      case round =>
        obtain ⟨e, last, b, he, rfl, rfl, HL, hbl, HM, HD, oM, oA, oD, hb⟩ := hrel
        clear od' hb'
        by_cases hlt2 : e < d.length
        · have hlt2' : (e : Int) < (d.length : Int) := by omega
          have hx : d[e]? = some d[e] := List.getElem?_eq_getElem hlt2
          obtain ⟨j, y, hAj, hky, hf, hup⟩ := pos_up hno hsl hx
          have hzz : y.z = d[e].z := hzl _ (List.getElem_mem hlt2) y (List.mem_of_getElem? hAj) hky
          have hjA : j < A.length := (List.getElem?_eq_some_iff.1 hAj).1
          have hjA' : (j : Int) < (A.length : Int) := by omega
          have hlast : last < (j : Int) := by
            rcases HL.out with ⟨-, h2⟩ | ⟨e', x', h1, h2, h3⟩
            · omega
            · rw [h3]; exact hup e' x' (by omega) h2
          have hl1 : decide ((j : Int) ≤ last) = false := decide_eq_false (by omega)
          have HL2 : Hid (Lst A d (e + 1) (j : Int)) := .inr ⟨e, _, rfl, hx, hf.symm⟩
          have HD2 : Hid (Met A (b.set j true) d (e + 1)) := HD.out.more hx hf (by rw [hbl.out]; exact hjA)
          have HM2 : Hid (∀ l ∈ L.take k, Met A (b.set j true) (aT l) (aT l).length) := fun l hl => (HM.out l hl).set j
          have hbl2 : Hid ((b.set j true).length = A.length) := by show _ = _; rw [List.length_set]; exact hbl.out
          have hbj : (b.map Value.bool)[j]? = some (.bool (b.getD j false)) := by
            rw [List.getElem?_map, List.getD_eq_getElem?_getD, List.getElem?_eq_getElem (by rw [hbl.out]; exact hjA)]
            rfl
          have hset : Hid ((b.map Value.bool).set j (.bool true) = (b.set j true).map Value.bool) := by show _ = _; rw [List.map_set]
          have rA := rda_own oA
          have rD := rda_own oD
          obtain ⟨ba, oa, rfl, hba, c0, c1, c2, c3⟩ := rda_at rD hx
          obtain ⟨bb, ob, rfl, hbb, -, -, -, d3⟩ := rda_at rA hAj
          have cF := rfind_any _ A d[e] wr rA (by omega)
          rw [hf] at cF
          clear hx hAj hky hf hup HL HD HM hbl hlast rA rD
          generalize d[e] = x at *
          go_wp2_with fail
          refine cF.mono ?_
          rintro e6 w6 ⟨rfl, b6⟩
          have e3 : ∀ s : Beh w6, s.it.cell? ⟨ba, oa + e * 4 + 3, none⟩ = some (.int .i64 x.z) := fun s => (s.h.cell (p := ⟨ba, _, none⟩) (Nat.lt_of_lt_of_le hba b6.size)).trans ((b6.cell (p := ⟨ba, _, none⟩) hba).trans c3)
          have g3 : ∀ s : Beh w6, s.it.cell? ⟨bb, ob + j * 4 + 3, none⟩ = some (.int .i64 y.z) := fun s => (s.h.cell (p := ⟨bb, _, none⟩) (Nat.lt_of_lt_of_le hbb b6.size)).trans ((b6.cell (p := ⟨bb, _, none⟩) hbb).trans d3)
          have z2 : (y.z != x.z) = false := by rw [hzz]; simp
          replace oM := own_below oM b6
          replace oA := own_below oA b6
          replace oD := own_below oD b6
          replace hb := chain hb b6
          clear cF c0 c1 c2 c3 d3 b6 hba hbb hzz
          go_upto_region 14 with fail
          refine wp_region_beh (by kernel_rfl) (by kernel_rfl) ?_
          repeat (go_big_quiet_step (fail))
          refine wpQuiet_nil ?_
          intro wq hw'
          have hwq := Beh.out hw'
          clear hw' e3 g3
          replace oM := own_below oM hwq
          replace oA := own_below oA hwq
          replace oD := own_below oD hwq
          replace hb := chain hb hwq
          have y0 := oM.cells (g := p) rfl j _ hbj
          rw [addr4, Nat.zero_add] at y0
          obtain ⟨cu, hcu⟩ := own_kind oM (g := p) rfl
          have y1 := frz hcu j
          have s0 := own_stored oM j (.bool true)
          rw [hset.out] at s0
          have s1 := own_set_sm oM (t := 80) (by decide) j (.bool true)
          have s2 := own_sm oA s1
          have s3 := own_sm oD s1
          have s4 := hb.setCell (p := ⟨p, j, none⟩) hpl.out (.bool true)
          clear hcu s1 oM oA oD hb hset hbj hwq
          go_wp2_with fail
          exact ⟨⟨e + 1, (j : Int), b.set j true, by omega, rfl, by go_num, HL2, hbl2, HM2, HD2, s0, s2, s3, s4⟩, by simp [Go.RowKit.intOf]; omega⟩
        · obtain rfl : e = d.length := by omega
          have HN := Hd.out b hbl.out HD.out HM.out
          clear HL HD HM oD
          go_wp2_with fail
          exact ⟨⟨k + 1, b, by omega, by go_num, hbl, HN, oM, oA, hb⟩, by simp [Go.RowKit.intOf]; omega⟩
    · obtain rfl : k = L.length := by omega
      have hT : ∀ j, j < A.length → bs[j]? = some true := fun j hj => by
        have hAj : A[j]? = some A[j] := List.getElem?_eq_getElem hj
        obtain ⟨l, hl2, x, hx, e⟩ := hall _ (List.getElem_mem hj)
        obtain ⟨i, hi⟩ := List.mem_iff_getElem?.1 hx
        have := HM.out l (by rw [List.take_length]; exact hl2) i x (List.getElem?_eq_some_iff.1 hi).1 hi j (by rw [fdA_at A 0 j hAj e hno, Nat.zero_add])
        exact this
      clear HM hall hs hz hl hn hno hcs oA
      generalize wr = wa at *
      go_wp2_with fail
      go_loopw [12] (fun iv wr => ∃ j : Nat, j ≤ A.length ∧ iv = .int .i64 (j : Int) ∧ wr.ownsRow w.heap.size 4 1 (.slice (some ⟨p, 0, none⟩) A.length A.length) A.length (bs.map Value.bool) ∧ Below w.heap.size w wr) (fun iv _ => A.length - (Go.RowKit.intOf iv).toNat)
      case atStart => exact ⟨0, by omega, rfl, oM, hb⟩
      case round =>
        obtain ⟨j, hj, rfl, oM2, hb2⟩ := hrel
        clear oM hb
        by_cases hlt2 : j < A.length
        · have hlt2' : (j : Int) < (A.length : Int) := by omega
          have y0 := oM2.cells (g := p) rfl j (.bool true) (by rw [List.getElem?_map, hT j hlt2]; rfl)
          rw [addr4, Nat.zero_add] at y0
          go_wp2_with fail
          exact ⟨⟨j + 1, by omega, by go_num, oM2, hb2⟩, by simp [Go.RowKit.intOf]; omega⟩
        · obtain rfl : j = A.length := by omega
          clear hT
          go_wp2_with fail
          go_ret
          exact ⟨rfl, hb2⟩
end Go.Proofs.YtjimolafoihnpaaDoor.tc

/-
  Deltas in a row that came in, opened by small bulk; whether a document has atoms of an origin.
-/
namespace Go.Proofs.YtjimolafoihnpaaDoor.tc
open Go.Maps Go.ChangeShapes Go.WideShapes Go.ChangeAt Go.RowKit Go.PlainAid

instance : Inhabited OpD := ⟨⟨0, 0, ⟨#[]⟩⟩⟩
theorem none_cap {H : Type} {enc : TypeId × Value → H} {w : World} {spare : Nat → Bool} {held : Bool} {t e : TypeId} {fuel : Nat} {ao : Option Addr} {n cp : Nat} {x : DataW H × List MemPlace} (hu : Tryd.prog.underlying t = some (.slice e)) (h : DataW.trod enc Tryd.prog w 0 spare held fuel t [.slice ao n cp] = some x) : ao = none → cp = 0 := by
  rcases Go.Deep.open_slice hu h with ⟨hcs, _⟩ | ⟨a, len, cap, m, n, D, Pl, hcs, _⟩
  · simp at hcs
    exact fun _ => hcs.2.2
  · simp at hcs
    intro q
    rw [hcs.1] at q
    cases q
set_option maxRecDepth 20000 in
theorem open_opU {H : Type} {enc : TypeId × Value → H} {w : World} {spare : Nat → Bool} {held : Bool} {n : Nat} {cs : List Value} {x : DataW H × List MemPlace} (h : DataW.trod enc Tryd.prog w 0 spare held n 106 cs = some x) :
    ∃ o : OpD, cs = [.int .i64 o.k, .int .i64 o.n, .string o.t] ∧ o.t.size ≤ Rows.uptoBulk x.1 := by
  obtain ⟨xs, m, _, hx, hl, _, hf⟩ := DataW.trod_struct Tryd.underlying106 h
  have h4 : Tryd.prog.cellsOf 106 = 3 := by kernel_rfl
  have c3 : Tryd.prog.cellsOf 3 = 1 := by kernel_rfl
  have c9 : Tryd.prog.cellsOf 9 = 1 := by kernel_rfl
  rw [h4] at hl
  have hxl : xs.length = 3 := by assumption
  match xs, hxl, cs, hl with
  | [y0, y1, y2], _, [v0, v1, v2], _ =>
    have g0 := hf 0 _ rfl
    have g1 := hf 1 _ rfl
    have g2 := hf 2 _ rfl
    simp [c3, c9] at g0 g1 g2
    obtain ⟨a0, e0, _, w0⟩ := DataW.trod_int Tryd.underlying3 g0
    obtain ⟨a1, e1, _, w1⟩ := DataW.trod_int Tryd.underlying3 g1
    obtain ⟨a2, e2, f2, w2⟩ := DataW.trod_string Tryd.underlying9 g2
    simp at e0 e1 e2
    refine ⟨⟨a0, a1, a2⟩, by rw [e0, e1, e2], ?_⟩
    rw [hx]
    simp only [List.map, Rows.uptoBulk, Rows.uptoBulkAll]
    rw [f2]
    simp only [Rows.uptoBulk]
    have : a2.data.toList.length = a2.size := by simp
    show a2.size ≤ _
    omega
/-- A delta of small bulk. -/
def SmO (l : List OpD) (n : Nat) : Prop := l.length ≤ n ∧ ∀ o ∈ l, o.t.size ≤ n
/-- One delta, out of its cells. -/
theorem open_dlO {H : Type} {enc : TypeId × Value → H} {w : World} {spare : Nat → Bool} {held : Bool} {n : Nat} {cs : List Value} {x : DataW H × List MemPlace} (h : DataW.trod enc Tryd.prog w 0 spare held n 33 cs = some x) :
    ∃ l : List OpD, (∃ u, cs = [u] ∧ RdD w u l) ∧ SmO l (Rows.uptoBulk x.1) := by
  obtain ⟨l, ao, cp, e, hc, hk, hr⟩ := open_rowK (α := OpD) (fun o cs => cs = [.int .i64 o.k, .int .i64 o.n, .string o.t]) (fun o d => o.t.size ≤ Rows.uptoBulk d) Tryd.underlying33 (show Tryd.prog.cellsOf 106 = 3 by kernel_rfl) (by decide) open_opU h
  subst e
  refine ⟨l, ⟨_, rfl, ao, cp, rfl, ⟨hc, none_cap Tryd.underlying33 h⟩, fun i o ho => ?_⟩, ?_⟩
  · obtain ⟨b, off, cs, e1, h1, rfl, h3⟩ := hr i o ho
    exact ⟨b, off, e1, h1, h3 0 _ rfl, h3 1 _ rfl, h3 2 _ rfl⟩
  · rcases hk with rfl | ⟨D, sp, hx, hK⟩
    · exact ⟨by simp, by simp⟩
    · rw [hx, Rows.uptoBulk]
      have h9 := bulk_sum (fun _ : OpD => 1) l ((List.range l.length).map D) (by simp) (fun _ _ d _ _ => bulk_pos d)
      have h8 : (l.map fun _ => 1).sum = l.length := by
        generalize l = l
        induction l with
        | nil => rfl
        | cons a l ih => rw [List.map_cons, List.sum_cons, ih, List.length_cons]; omega
      refine ⟨by omega, fun o ho => ?_⟩
      obtain ⟨i, hi⟩ := List.mem_iff_getElem?.1 ho
      have hil := (List.getElem?_eq_some_iff.1 hi).1
      have h7 := hK i o hi
      have h6 := bulk_mem (l := (List.range l.length).map D) (d := D i) (List.mem_map.2 ⟨i, List.mem_range.2 hil, rfl⟩)
      omega
/-- Deltas that came in. -/
def RdDs (W : World) (v : Value) (L : List (List OpD)) : Prop :=
  ∃ (ao : Option Addr) (cp : Nat), v = .slice ao L.length cp ∧ L.length ≤ cp ∧ ∀ (i : Nat) (l : List OpD), L[i]? = some l → ∃ b off u, ao = some ⟨b, off, none⟩ ∧ b < W.heap.size ∧ W.cell? ⟨b, off + i, none⟩ = some u ∧ RdD W u l
theorem open_dls {H : Type} {enc : TypeId × Value → H} {w : World} {spare : Nat → Bool} {held : Bool} {fuel : Nat} {v : Value} {x : DataW H × List MemPlace}
    (h : DataW.trod enc Tryd.prog w 0 spare held fuel 23 [v] = some x) (hz : Rows.uptoBulk x.1 ≤ 1048576) :
    ∃ L : List (List OpD), RdDs w v L ∧ L.length ≤ 1048576 ∧ ∀ l ∈ L, SmO l 1048576 := by
  obtain ⟨L, ao, cp, e, hc, hk, hr⟩ := open_rowK (α := List OpD) (fun l cs => ∃ u, cs = [u] ∧ RdD w u l) (fun l d => SmO l (Rows.uptoBulk d)) Tryd.underlying23 (show Tryd.prog.cellsOf 33 = 1 by kernel_rfl) (by decide) open_dlO h
  injection e with e
  subst e
  refine ⟨L, ⟨ao, cp, rfl, hc, fun i l hl => ?_⟩, ?_⟩
  · obtain ⟨b, off, cs, e1, h1, ⟨u, rfl, hu⟩, h3⟩ := hr i l hl
    have := h3 0 u rfl
    rw [Nat.mul_one, Nat.add_zero] at this
    exact ⟨b, off, u, e1, h1, this, hu⟩
  · rcases hk with rfl | ⟨D, sp, hx, hK⟩
    · simp
    · rw [hx, Rows.uptoBulk] at hz
      have h9 := bulk_sum (fun _ : List OpD => 1) L ((List.range L.length).map D) (by simp) (fun _ _ d _ _ => bulk_pos d)
      have h8 : (L.map fun _ => 1).sum = L.length := by
        generalize L = l
        induction l with
        | nil => rfl
        | cons a l ih => rw [List.map_cons, List.sum_cons, ih, List.length_cons]; omega
      refine ⟨by omega, fun l hl => ?_⟩
      obtain ⟨i, hi⟩ := List.mem_iff_getElem?.1 hl
      have hil := (List.getElem?_eq_some_iff.1 hi).1
      obtain ⟨h7, h5⟩ := hK i l hi
      have h6 := bulk_mem (l := (List.range L.length).map D) (d := D i) (List.mem_map.2 ⟨i, List.mem_range.2 hil, rfl⟩)
      exact ⟨by omega, fun o ho => by have := h5 o ho; omega⟩
theorem wL_good {l : List RunD} (h : Good l) : wL l ≤ 5001 := by
  have e : ∀ l : List RunD, (l.map wR).sum = (txB l).length + l.length := by
    intro l
    induction l with
    | nil => rfl
    | cons r l ih =>
      have e2 : r.t.data.toList.length = r.t.size := by simp
      rw [List.map_cons, List.sum_cons, ih, show r :: l = [r] ++ l from rfl, txB_append, txB_one, List.length_append, List.length_append, wR, e2]
      simp
      omega
  obtain ⟨h1, h2⟩ := h.bound
  rw [wL, e]
  omega
theorem good_up {L : List (List RunD)} (hg : ∀ l ∈ L, Good l) (hl : L.length ≤ 100) : Up L := by
  refine up_of (fun l hl r hr => ?_) ?_
  · have h := hg l hl
    have h4 := mayR_iff.1 (h.may r hr)
    have h5 := orM_iff.1 h4.1
    unfold Bd4 InI
    omega
  · have : ∀ L : List (List RunD), (∀ l ∈ L, Good l) → (L.map wL).sum ≤ 5001 * L.length := by
      intro L
      induction L with
      | nil => intro _; simp
      | cons l L ih =>
        intro h
        have h1 := ih fun x hx => h x (by simp [hx])
        have h2 := wL_good (h l (by simp))
        rw [List.map_cons, List.sum_cons, List.length_cons]
        omega
    have := this L hg
    omega
theorem nk_at {N : List AtK} {n : Nat} {k : AtK} (h : N[n]? = some k) : nk N n = k := by rw [nk, List.getD_eq_getElem?_getD, h]; rfl
theorem getD_two {P : List Int} {n : Nat} (h : n < P.length) (a b : Int) : P.getD n a = P.getD n b := by
  rw [List.getD_eq_getElem?_getD, List.getD_eq_getElem?_getD, List.getElem?_eq_getElem h]
  rfl
theorem idx_get {N : List AtK} (hN : N.Nodup) (n : Nat) (hn : n < N.length) : N.idxOf N[n] = n := by
  have hm : N[n] ∈ N := List.getElem_mem hn
  have hl := List.idxOf_lt_length_of_mem hm
  exact idx_one hN (i := N.idxOf N[n]) (x := N[n]) (by rw [List.getElem?_eq_getElem hl, List.getElem_idxOf]) (List.getElem?_eq_getElem hn)
/-- What is known of an order's row. -/
structure RwOk (L : List (List RunD)) (R : List RunD) : Prop where
  len : R.length ≤ 100000
  small : ∀ r ∈ R, r.t.size ≤ 1048576
  can : Can R
  at_ : aT R = ats R
  ats : (Go.Proofs.YtjimolafoihnpaaDoor.ats R).length ≤ 100000
  one : ((Go.Proofs.YtjimolafoihnpaaDoor.ats R).map Atm.key).Nodup
  num : ∀ x ∈ Go.Proofs.YtjimolafoihnpaaDoor.ats R, 0 ≤ x.n ∧ x.n ≤ 100000
  sub : ∀ l ∈ L, ((aT l).map Atm.key).Sublist ((Go.Proofs.YtjimolafoihnpaaDoor.ats R).map Atm.key)
  z : ∀ l ∈ L, ∀ x ∈ aT l, ∀ y ∈ Go.Proofs.YtjimolafoihnpaaDoor.ats R, y.key = x.key → y.z = x.z
  all : ∀ y ∈ Go.Proofs.YtjimolafoihnpaaDoor.ats R, ∃ l ∈ L, ∃ x ∈ aT l, y.key = x.key
theorem rw_ok {L : List (List RunD)} (hg : ∀ l ∈ L, Good l) (h13 : L.length ≤ 100) {P : List Int} {row : List Nat} (hP : PtI (nmA (aTs L)).length (dcs L).flatten P) (ho : OrdN (dcs L) row) (hlen : row.length = (nmA (aTs L)).length) (hin : ∀ n ∈ row, n < (nmA (aTs L)).length) (hok : OkL L) : RwOk L (rns (nmA (aTs L)) P row) := by
  have hNn := nmA_nodup (aTs L)
  have hNl := nmA_len (aTs L)
  have hsum := good_sum hg
  have name : ∀ n, n < (nmA (aTs L)).length → ∃ y ∈ aTs L, nk (nmA (aTs L)) n = y.key ∧ P.getD n 0 = y.z := fun n hn => by
    have hm : (nmA (aTs L))[n] ∈ nmA (aTs L) := List.getElem_mem hn
    obtain ⟨y, hy, e⟩ := nmA_mem.1 hm
    have h1 := hP.hit _ (dcs_flat.2 ⟨y, hy, rfl⟩)
    have hi : (nmA (aTs L)).idxOf y.key = n := by rw [e]; exact idx_get hNn n hn
    simp only [hi] at h1
    refine ⟨y, hy, ?_, ?_⟩
    · rw [nk_at (List.getElem?_eq_getElem hn), e]
    · rw [getD_two (by rw [hP.len]; exact hn) 0 (-1), h1]
  have good : ∀ y ∈ aTs L, szI y.z ≠ 0 ∧ y.May := fun y hy => by
    obtain ⟨l, hl, hyl⟩ := aTs_mem.1 hy
    rw [aT_good (hg l hl)] at hyl
    obtain ⟨-, k2, -, k4⟩ := good_kl (hg l hl)
    exact ⟨k4 y hyl, k2 y hyl⟩
  obtain ⟨f1, f2, f3, f4, f5⟩ := rns_facts (N := nmA (aTs L)) (P := P) (row := row) (fun n hn => by
    obtain ⟨y, hy, -, e⟩ := name n (hin n hn)
    rw [e]
    exact (good y hy).1) (fun n hn => by
    obtain ⟨y, hy, e, -⟩ := name n (hin n hn)
    rw [e]
    exact (good y hy).2.2) (by omega)
  have hk : (Go.Proofs.YtjimolafoihnpaaDoor.ats (rns (nmA (aTs L)) P row)).map Atm.key = row.map (nk (nmA (aTs L))) := by
    rw [f2, List.map_map]
    rfl
  have hmem : ∀ y ∈ Go.Proofs.YtjimolafoihnpaaDoor.ats (rns (nmA (aTs L)) P row), ∃ y' ∈ aTs L, y.key = y'.key ∧ y.z = y'.z := fun y hy => by
    rw [f2] at hy
    obtain ⟨n, hn, rfl⟩ := List.mem_map.1 hy
    obtain ⟨y', hy', e1, e2⟩ := name n (hin n hn)
    exact ⟨y', hy', e1, e2⟩
  refine ⟨by omega, f5, f1, by rw [f3, f2], by rw [f2, List.length_map]; omega, ?_, fun x hx => ?_, fun l hl => ?_, fun l hl x hx y hy e => ?_, fun y hy => ?_⟩
  · rw [hk]
    refine (List.pairwise_map.2 (ho.1.imp_of_mem fun {a b} ha hb hne e => hne ?_))
    have ha' := hin a ha
    have hb' := hin b hb
    rw [nk_at (List.getElem?_eq_getElem ha'), nk_at (List.getElem?_eq_getElem hb')] at e
    have h1 := idx_get hNn a ha'
    have h2 := idx_get hNn b hb'
    rw [← h1, ← h2, e]
  · obtain ⟨y', hy', e1, -⟩ := hmem x hx
    have := (good y' hy').2.2
    simp only [Atm.key, Prod.mk.injEq] at e1
    omega
  · obtain ⟨d, hd⟩ := List.mem_iff_getElem?.1 hl
    have h1 := (ho.2 d).map (nk (nmA (aTs L)))
    rw [nmD_dcs hd, List.map_map] at h1
    have e : (keys l).map (nk (nmA (aTs L)) ∘ (nmA (aTs L)).idxOf) = keys l := by
      conv => rhs; rw [← List.map_id (keys l)]
      apply List.map_congr_left
      intro k hk2
      obtain ⟨y, hy, rfl⟩ := List.mem_map.1 hk2
      have hin2 := nm_in hl y hy
      simp only [Function.comp, id]
      refine nk_at ?_
      rw [List.getElem?_eq_getElem (List.idxOf_lt_length_of_mem hin2), List.getElem_idxOf]
    rw [e] at h1
    rw [hk]
    exact h1
  · obtain ⟨y', hy', e1, e2⟩ := hmem y hy
    rw [e2]
    exact hok.1 y' hy' x (aTs_mem.2 ⟨l, hl, hx⟩) (e1.symm.trans e)
  · obtain ⟨y', hy', e1, -⟩ := hmem y hy
    obtain ⟨l, hl, hyl⟩ := aTs_mem.1 hy'
    exact ⟨l, hl, y', hyl, e1⟩
set_option maxRecDepth 20000 in
set_option maxHeartbeats 1000000 in
theorem had_any (v : Value) (l : List RunD) (c q : Int) (w : World) (hr : RdN w v l) (hm : l.length ≤ 1048576) :
    Calls Tryd.prog 7 #[v, .agg #[.int .i64 c, .int .i64 q]] w fun e w' => e = .returned (.bool (l.any (orQ c q))) ∧ Below w.heap.size w w' := by
  obtain ⟨ao, cp, hv, -⟩ := id hr
  subst hv
  have hA0 := alloc_b w (.cells #[.int .i64 c, .int .i64 q] 29)
  have hO0 : OB (w.alloc (.cells #[.int .i64 c, .int .i64 q] 29)) w.heap.size c q := heap_alloc_new w _
  go_enter Tryd.func7, Tryd.ntmps7
  go_wp2_with fail
  obtain ⟨p, hp⟩ : ∃ p, Hid (p = w.heap.size) := ⟨_, rfl⟩
  rw [← hp.out]
  rw [← hp.out] at hO0
  generalize w.alloc (.cells #[.int .i64 c, .int .i64 q] 29) = w1 at *
  go_loopw [5] (fun i wr => ∃ (k : Nat), k ≤ l.length ∧ i = .int .i64 (k : Int) ∧ Hid (l.any (orQ c q) = (l.drop k).any (orQ c q)) ∧ OB wr p c q ∧ Below w.heap.size w wr) (fun i _ => l.length - (intOf i).toNat)
  case atStart => exact ⟨0, Nat.zero_le _, rfl, by show _ = _; simp, hO0, hA0⟩
  case round =>
    obtain ⟨k, hk, rfl, HE, hO, hB⟩ := hrel
    clear hO0 hA0
    by_cases hlt : k < l.length
    · have hlt' : (k : Int) < (l.length : Int) := by omega
      obtain ⟨bb, off, e1, hbb, c0, c1, -, -⟩ := (hr.below hB).at k l[k] (by simp [hlt])
      have HD : Hid ((l.drop k).any (orQ c q) = (orQ c q l[k] || (l.drop (k + 1)).any (orQ c q))) := by show _ = _; rw [drop_one hlt]; rfl
      obtain ⟨d0, d1, -, -⟩ := hO.facts
      have hp := (heap_lt hO)
      have d2 : ∀ s : Beh wr, s.it.cell? ⟨p, 0, none⟩ = some (.int .i64 c) := fun s => (s.h.cell (p := ⟨p, 0, none⟩) hp).trans d0
      have d3 : ∀ s : Beh wr, s.it.cell? ⟨p, 1, none⟩ = some (.int .i64 q) := fun s => (s.h.cell (p := ⟨p, 1, none⟩) hp).trans d1
      have c2 : ∀ s : Beh wr, s.it.cell? ⟨bb, off + k * 4, none⟩ = some (.int .i64 l[k].c) := fun s => (s.h.cell (p := ⟨bb, _, none⟩) hbb).trans c0
      have c3 : ∀ s : Beh wr, s.it.cell? ⟨bb, off + k * 4 + 1, none⟩ = some (.int .i64 l[k].q) := fun s => (s.h.cell (p := ⟨bb, _, none⟩) hbb).trans c1
      generalize l[k] = r at *
      subst e1
      clear hr c0 c1 d0 d1
      by_cases h1 : r.c = c
      · by_cases h2 : r.q = q
        · have HF : Hid (l.any (orQ c q) = true) := by show _ = _; rw [HE.out, HD.out]; simp [orQ, h1, h2]
          have h1' : (r.c == c) = true := by simp [h1]
          have h2' : (r.q == q) = true := by simp [h2]
          clear HE HD h1 h2 hO
          go_upto_region 4 with fail
          refine wp_region_beh (by kernel_rfl) (by kernel_rfl) ?_
          repeat (go_big_quiet_step (fail))
          refine wpQuiet_nil ?_
          intro wq hw'
          have hwq := Beh.out hw'
          clear hw' c2 c3 d2 d3
          go_wp2_with fail
          go_ret
          exact ⟨ret_b HF.out.symm, chain hB hwq⟩
        · have HF : Hid (l.any (orQ c q) = (l.drop (k + 1)).any (orQ c q)) := by show _ = _; rw [HE.out, HD.out]; simp [orQ, h2]
          have h1' : (r.c == c) = true := by simp [h1]
          have h2' : (r.q == q) = false := beq_eq_false_iff_ne.2 h2
          clear HE HD h1 h2
          go_upto_region 4 with fail
          refine wp_region_beh (by kernel_rfl) (by kernel_rfl) ?_
          repeat (go_big_quiet_step (fail))
          refine wpQuiet_nil ?_
          intro wq hw'
          have hwq := Beh.out hw'
          clear hw' c2 c3 d2 d3
          go_wp2_with fail
          exact ⟨⟨k + 1, by omega, by go_num, HF, hO.below hwq, chain hB hwq⟩, by simp [intOf]; omega⟩
      · have HF : Hid (l.any (orQ c q) = (l.drop (k + 1)).any (orQ c q)) := by show _ = _; rw [HE.out, HD.out]; simp [orQ, h1]
        have h1' : (r.c == c) = false := beq_eq_false_iff_ne.2 h1
        clear HE HD h1
        go_upto_region 4 with fail
        refine wp_region_beh (by kernel_rfl) (by kernel_rfl) ?_
        repeat (go_big_quiet_step (fail))
        refine wpQuiet_nil ?_
        intro wq hw'
        have hwq := Beh.out hw'
        clear hw' c2 c3 d2 d3
        go_wp2_with fail
        exact ⟨⟨k + 1, by omega, by go_num, HF, hO.below hwq, chain hB hwq⟩, by simp [intOf]; omega⟩
    · obtain rfl : k = l.length := by omega
      have HF : Hid (l.any (orQ c q) = false) := by show _ = _; rw [HE.out]; simp
      clear HE hO
      go_wp2_with fail
      go_ret
      exact ⟨ret_b HF.out.symm, hB⟩
end Go.Proofs.YtjimolafoihnpaaDoor.tc
