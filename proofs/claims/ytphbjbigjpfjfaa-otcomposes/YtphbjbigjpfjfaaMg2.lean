/- Texts of one proof, one behind the other: DlP, DlR, DMa, DMb, DArg, DlL, DlX, OtA, OtB, OtC, OtD, OtE, OtF, OtG, OtH, OtI, OtJ, OtK, OtM, OtN, OtO, OtR, MapG. -/
import Derived.Test.YtphbjbigjpfjfaaMg1
import Derived.Deep.RegionLaw
import Derived.Deep.AppendLies
import Derived.Deep.QuietTactic
import Derived.BigQuiet
import Derived.Deep.Slices
import Derived.SizedLaws
import Derived.Laws.RangeString
import Derived.Laws.RangeAny
import Derived.Laws.Runes
import Derived.StillTail
import Derived.StillTactics
import Derived.Laws.CopyRow
import Derived.WalkSmall
import Derived.Lib.OthersKept
import Derived.Deep.RegionWith
import Derived.Deep.DeepCutAuto
import Derived.Deep.LoopGhost
import Derived.Maps.Own
import Derived.Maps.OwnSet
import Derived.Maps.Ext
import Derived.Lib.SlMapMerge
import Derived.Lib.SlKeysI
import Derived.Below

/-
  The contracts of applied and Apply.
-/
namespace Go.Proofs.Ytphbjbigjpfjfaa
open Go.ChangeShapes Go.WideShapes Go.ChangeAt Go.RowKit Go.PlainAid

/-- Numbers at a place, with room for as many. -/
def RdP (w : World) (v : Value) (zs : List Int) : Prop :=
  ∃ ao cp, v = .slice ao zs.length cp ∧ zs.length ≤ cp ∧ (0 < zs.length → ∃ b off, ao = some ⟨b, off, none⟩ ∧ b < w.heap.size ∧ ∀ i, i < zs.length → w.cell? ⟨b, off + i, none⟩ = some (.int .i64 (zs.getD i 0)))

theorem rdp_own {w : World} {base n : Nat} {v : Value} {zs : List Int} (h : w.ownsRow base 3 1 v n (iv zs)) : RdP w v zs := by
  have hl := h.1
  rw [iv_length] at hl
  rcases h.2 with ⟨rfl, h0⟩ | ⟨g, cap, cur, rfl, hb, hg, hn, _, hc, ht⟩
  · subst h0
    have : zs = [] := List.eq_nil_of_length_eq_zero (by omega)
    subst this
    exact ⟨none, 0, rfl, Nat.le_refl _, fun h => by simp at h⟩
  · refine ⟨_, cap, by rw [hl, Nat.mul_one], by omega, fun _ => ⟨g, 0, rfl, (h.lt g rfl).2, fun i hi => ?_⟩⟩
    have := h.cells (g := g) rfl i (.int .i64 (zs.getD i 0)) (by simp [iv, hi])
    have hadd : (⟨g, 0, none⟩ : Addr).add i = ⟨g, 0 + i, none⟩ := by unfold Addr.add; split <;> simp_all
    rw [hadd] at this
    exact this
theorem RdP.below {w w' : World} {v : Value} {zs : List Int} (h : RdP w v zs) (hb : Below w.heap.size w w') : RdP w' v zs := by
  obtain ⟨ao, cp, e, h0, h1⟩ := h
  refine ⟨ao, cp, e, h0, fun h => ?_⟩
  obtain ⟨b, off, e1, hl, c0⟩ := h1 h
  exact ⟨b, off, e1, Nat.lt_of_lt_of_le hl hb.size, fun i hi => (hb.cell (p := ⟨b, off + i, none⟩) hl).trans (c0 i hi)⟩

/-- The code points of a text. -/
def pts (t : ByteArray) : List Int := ptL t (cpl t).toNat
/-- What steps make of code points. -/
def apRun : List Int → List St → List Int
  | _, [] => []
  | zs, .keep n :: l => zs.take n ++ apRun (zs.drop n) l
  | zs, .rem n :: l => apRun (zs.drop n) l
  | zs, .ins t :: l => pts t ++ apRun zs l

theorem pts_len {t : ByteArray} (h : 0 ≤ cpl t) : ((pts t).length : Int) = cpl t := by rw [pts, ptL_length]; omega
theorem apRun_len : ∀ (l : List St) (zs : List Int), bsum l ≤ zs.length → (apRun zs l).length = tsum l
  | [], _, _ => by simp [apRun, tsum]
  | .keep n :: l, zs, h => by
    have e1 : bsum (.keep n :: l) = n + bsum l := by simp [bsum, St.b]
    have e2 : tsum (.keep n :: l) = n + tsum l := by simp [tsum, St.c]
    rw [e1] at h
    rw [e2, apRun, List.length_append, apRun_len l _ (by rw [List.length_drop]; omega), List.length_take]
    omega
  | .rem n :: l, zs, h => by
    have e1 : bsum (.rem n :: l) = n + bsum l := by simp [bsum, St.b]
    have e2 : tsum (.rem n :: l) = tsum l := by simp [tsum, St.c]
    rw [e1] at h
    rw [e2, apRun, apRun_len l _ (by rw [List.length_drop]; omega)]
  | .ins t :: l, zs, h => by
    have e1 : bsum (.ins t :: l) = bsum l := by simp [bsum, St.b]
    have e2 : tsum (.ins t :: l) = (cpl t).toNat + tsum l := by simp [tsum, St.c]
    rw [e1] at h
    rw [e2, apRun, List.length_append, apRun_len l _ h, pts, ptL_length]

theorem own_ints {w1 : World} {base n m : Nat} {v' : Value} {L M : List Int} (h : w1.ownsRow base 3 1 v' (n + m) (iv L ++ iv M)) (hn : L.length = n) (hm : M.length = m) :
    w1.ownsRow base 3 1 v' (L ++ M).length (iv (L ++ M)) := by
  subst hn; subst hm
  rw [iv_append, List.length_append]
  exact h
theorem iv_one (l : List Int) : ∀ u ∈ iv l, u.oneCell' = true := by
  intro u hu
  simp only [iv, List.mem_map] at hu
  obtain ⟨x, _, rfl⟩ := hu
  rfl

theorem points_any (t : ByteArray) (w : World) (hs : t.size ≤ 8796093022208) (h : 0 ≤ cpl t) :
    Calls Try.prog 41 #[.string t] w fun e w' => ∃ v, e = .returned (.tuple #[v, .bool true]) ∧ w'.ownsRow w.heap.size 3 1 v (pts t).length (iv (pts t)) ∧ Below w.heap.size w w' := by
  have := points_ok t _ w hs (cpl_valid h)
  rw [show (pts t).length = (cpl t).toNat by rw [pts, ptL_length]]
  exact this

theorem iv_cells {w : World} {g o : Nat} {zs : List Int} (h : ∀ i, i < zs.length → w.cell? ⟨g, o + i, none⟩ = some (.int .i64 (zs.getD i 0))) : ∀ j u, (iv zs)[j]? = some u → w.cell? ((⟨g, o, none⟩ : Addr).add j) = some u := by
  intro j u hj
  have hj' : j < zs.length := by have := (List.getElem?_eq_some_iff.1 hj).1; rwa [iv_length] at this
  have hadd : (⟨g, o, none⟩ : Addr).add j = ⟨g, o + j, none⟩ := by unfold Addr.add; split <;> simp_all
  rw [hadd, h j hj']
  simp [iv, hj'] at hj
  rw [← hj]
  simp [hj']
theorem addr_add (b o n : Nat) : (⟨b, o, none⟩ : Addr).add n = ⟨b, o + n, none⟩ := by unfold Addr.add; split <;> simp_all
theorem sizeInt (W : World) : (sizeOf 3).run Try.prog W = .ok 1 W := by kernel_rfl
/-- The rest of a slice of numbers. -/
theorem rdp_rest {w : World} (b o len cp n : Nat) (zs : List Int) (hl : len = zs.length) (hn : n ≤ len) (hc : len ≤ cp) (hb : b < w.heap.size) (hz : ∀ i, i < zs.length → w.cell? ⟨b, o + i, none⟩ = some (.int .i64 (zs.getD i 0))) :
    RdP w (.slice (some ⟨b, o + n, none⟩) (len - n) (cp - n)) (zs.drop n) := by
  refine ⟨_, _, by rw [List.length_drop, hl], by rw [List.length_drop]; omega, fun h => ?_⟩
  rw [List.length_drop] at h
  refine ⟨b, o + n, rfl, hb, fun i hi => ?_⟩
  rw [List.length_drop] at hi
  rw [Nat.add_assoc, hz (n + i) (by omega)]
  simp
theorem rdp_none (w : World) (ao : Option Addr) (cp : Nat) (zs : List Int) (h : zs.length = 0) : RdP w (.slice ao 0 cp) zs := ⟨ao, cp, by rw [h], by omega, fun q => by omega⟩
set_option maxRecDepth 20000 in
theorem slice_head (b o len cp n : Nat) (hn : n ≤ len) (hc : len ≤ cp) (h0 : 0 < n) (W : World) :
    (Instr.slice 64 (.slice (some ⟨b, o, none⟩) len cp) none (some (.int .i64 (n : Int))) none).run Try.prog W = .ok (.slice (some ⟨b, o, none⟩) n cp) W := by
  rw [run_slice_h (P := Try.prog) W 64 (some ⟨b, o, none⟩) len cp Try.underlying64 .i64 (n : Int) (by omega) (by omega)]
  have e : Try.prog.elem 64 = 3 := by kernel_rfl
  rw [e, sizeInt]
  simp only [Result.andThen, sliced, Int.toNat_natCast, Option.map_some, Nat.mul_one, addr_add]
  rw [if_neg (by omega)]
  simp

set_option maxRecDepth 20000 in
set_option maxHeartbeats 2000000 in
theorem applied_any (v0 v : Value) (zs : List Int) (l : List St) (w : World) (hz : RdP w v0 zs) (hr : RdV w v (sv l)) (hl : l.length ≤ 3000) (ho : ∀ s ∈ l, s.Ok) (hB : bsum l = zs.length) (hB' : bsum l ≤ 1000) (hT : tsum l ≤ 1000) :
    Calls Try.prog 43 #[v0, v] w fun e w' => ∃ u, e = .returned u ∧ w'.ownsRow w.heap.size 3 1 u (apRun zs l).length (iv (apRun zs l)) ∧ Below w.heap.size w w' := by
  obtain ⟨i0, hin, hz0, hz1, hz2⟩ := info_parts Try.info3
  obtain ⟨ao, cp, rfl, hc⟩ := hr
  rw [sv_length]
  have kk := ta_kk
  have rk := ta_rk
  have rr := ta_rr
  have ik := ta_ik
  have ir := ta_ir
  have ii := ta_ii
  go_enter Try.func43, Try.ntmps43
  go_wp2
  go_loopw [0, 5, 15] (fun q d i wr => ∃ (k : Nat) (out : List Int), k ≤ l.length ∧ i = .int .i64 (k : Int) ∧ RdP w q (zs.drop (bsum (l.take k))) ∧ wr.ownsRow w.heap.size 3 1 d out.length (iv out) ∧ out.length = tsum (l.take k) ∧ Hid (out ++ apRun (zs.drop (bsum (l.take k))) (l.drop k) = apRun zs l) ∧ Below w.heap.size w wr) (fun _ _ i _ => l.length - (intOf i).toNat)
  case atStart => exact ⟨0, [], by omega, rfl, hz, World.ownsRow_nil _ _ _ _, rfl, rfl, Below.refl _ _⟩
  case round =>
    obtain ⟨k, out, hk, rfl, hq, hown, hlen, HE, hbl⟩ := hrel
    clear hz
    have hst := sum_take l k
    have hsz := hbl.size
    by_cases hlt : k < l.length
    · have hlt' : (k : Int) < (l.length : Int) := by omega
      have hsk := ho l[k] (List.getElem_mem hlt)
      have hbt := bsum_take l k hlt
      have htt := tsum_take l k hlt
      have hst2 := sum_take l (k + 1)
      have HD : Hid (l.drop k = l[k] :: l.drop (k + 1)) := List.drop_eq_getElem_cons hlt
      obtain ⟨b, off, rfl, hbb, c0'⟩ := hc k (l[k]).val (by simp [sv, hlt])
      have c0 := (hbl.cell (p := ⟨b, off + k, none⟩) hbb).trans c0'
      clear c0' hc ho
      generalize l[k] = s at hsk HD c0 hbt htt
      have HE2 : Hid (out ++ apRun (zs.drop (bsum (l.take k))) (s :: l.drop (k + 1)) = apRun zs l) := by show _ = _; rw [← HD.out]; exact HE.out
      clear HE HD
      cases s with
      | keep n =>
        simp only [St.val, St.Ok, St.b, St.c] at c0 hsk hbt htt
        obtain ⟨qo, qc, rfl, hqc, hqz⟩ := hq
        have hdl : (zs.drop (bsum (l.take k))).length = zs.length - bsum (l.take k) := List.length_drop
        obtain ⟨b', o', rfl, hb', hcell⟩ := hqz (by omega)
        obtain ⟨L, hL⟩ : ∃ L, L = (zs.drop (bsum (l.take k))).length := ⟨_, rfl⟩
        have hLn : n ≤ L := by omega
        have R := rdp_rest b' o' L qc n (zs.drop (bsum (l.take k))) hL hLn (by omega) hb' hcell
        rw [List.drop_drop, ← hbt] at R
        obtain ⟨Z, hZ⟩ : ∃ Z, Z = (zs.drop (bsum (l.take k))).take n := ⟨_, rfl⟩
        have HZl : Hid (Z.length = n) := by show _ = _; rw [hZ, List.length_take]; omega
        have HZL : Hid ((iv Z).length = n * 1) := by show _ = _; rw [iv_length, HZl.out]; omega
        have hnews : ∀ j u, (iv Z)[j]? = some u → wr.drew.cell? ((⟨b', o', none⟩ : Addr).add j) = some u := by
          refine iv_cells (w := wr.drew) (fun i hi => ?_)
          have h1 : wr.drew.cell? ⟨b', o' + i, none⟩ = wr.cell? ⟨b', o' + i, none⟩ := rfl
          have hi' : i < n := by rw [HZl.out] at hi; exact hi
          rw [h1, hbl.cell (p := ⟨b', o' + i, none⟩) hb', hcell i (by omega), hZ]
          simp [List.getD, hi']
        have hownD : wr.drew.ownsRow w.heap.size 3 1 _ out.length (iv out) := hown
        have HZ : Hid (L = n → (zs.drop (bsum (l.take (k + 1)))).length = 0) := fun h => by rw [List.length_drop]; omega
        have HE3 : Hid ((out ++ Z) ++ apRun (zs.drop (bsum (l.take (k + 1)))) (l.drop (k + 1)) = apRun zs l) := by
          show _ = _
          rw [← HE2.out, apRun, List.drop_drop, hbt, hZ, List.append_assoc]
        have HL : Hid ((out ++ Z).length = tsum (l.take (k + 1))) := by show _ = _; rw [List.length_append, HZl.out]; omega
        have hol : out.length ≤ 1000 := by omega
        rw [← hL] at hqc
        rw [← hL]
        have hLi : (n : Int) ≤ (L : Int) := by omega
        have hLq : (n : Int) ≤ (qc : Int) := by omega
        clear HE2 hcell hqz hbt htt hlen hst hst2 hdl hL hZ hown
        by_cases hcp : qc = n
        · obtain rfl : L = n := by omega
          subst hcp
          clear R
          have R := rdp_none w (some ⟨b', o', none⟩) 0 _ (HZ.out rfl)
          clear HZ
          go_wp2
          go_region_law ((refine step_append_lies _ (by rfl) (.tmp 23) (.tmp 26) 64 (by rfl) w.heap.size 3 i0 (.int .i64 0) 1 8 Try.underlying64 hin hz0 hz1 hz2 rfl (by decide) u5 out.length (iv out) (by simp [Act.eval, Act.put]) hownD ⟨b', o', none⟩ qc qc (iv Z) (by simp [Act.eval, Act.put]) HZL.out hnews (iv_one _) (by omega) (by unfold maxLen; omega) (by omega) hsz wr.heap.size rfl ?_; intro g4 c4 w4 ho4 hg4 _ _; have R4 := own_ints ho4 rfl HZl.out; have B4 : Below w.heap.size w w4 := (hbl.drew).grown hg4 hsz (fun k hk => (hownD.lt k hk).1); clear ho4 hg4))
          all_goals
            go_wp2
            go_roundw
            case rel => exact ⟨k + 1, out ++ Z, by omega, by go_num, R, R4, HL.out, HE3, B4⟩
            case measure => simp [intOf]; omega
        · clear HZ
          go_wp2
          go_region_law ((refine step_append_lies _ (by rfl) (.tmp 23) (.tmp 26) 64 (by rfl) w.heap.size 3 i0 (.int .i64 0) 1 8 Try.underlying64 hin hz0 hz1 hz2 rfl (by decide) u5 out.length (iv out) (by simp [Act.eval, Act.put]) hownD ⟨b', o', none⟩ n qc (iv Z) (by simp [Act.eval, Act.put]) HZL.out hnews (iv_one _) (by omega) (by unfold maxLen; omega) (by omega) hsz wr.heap.size rfl ?_; intro g4 c4 w4 ho4 hg4 _ _; have R4 := own_ints ho4 rfl HZl.out; have B4 : Below w.heap.size w w4 := (hbl.drew).grown hg4 hsz (fun k hk => (hownD.lt k hk).1); clear ho4 hg4))
          all_goals
            go_wp2
            go_roundw
            case rel => exact ⟨k + 1, out ++ Z, by omega, by go_num, R, R4, HL.out, HE3, B4⟩
            case measure => simp [intOf]; omega
      | rem n =>
        simp only [St.val, St.Ok, St.b, St.c] at c0 hsk hbt htt
        obtain ⟨qo, qc, rfl, hqc, hqz⟩ := hq
        have hdl : (zs.drop (bsum (l.take k))).length = zs.length - bsum (l.take k) := List.length_drop
        obtain ⟨b', o', rfl, hb', hcell⟩ := hqz (by omega)
        obtain ⟨L, hL⟩ : ∃ L, L = (zs.drop (bsum (l.take k))).length := ⟨_, rfl⟩
        have hLn : n ≤ L := by omega
        have R := rdp_rest b' o' L qc n (zs.drop (bsum (l.take k))) hL hLn (by omega) hb' hcell
        rw [List.drop_drop, ← hbt] at R
        have HZ : Hid (L = n → (zs.drop (bsum (l.take (k + 1)))).length = 0) := fun h => by rw [List.length_drop]; omega
        have HE3 : Hid (out ++ apRun (zs.drop (bsum (l.take (k + 1)))) (l.drop (k + 1)) = apRun zs l) := by
          show _ = _
          rw [← HE2.out, apRun, List.drop_drop, hbt]
        have HL : Hid (out.length = tsum (l.take (k + 1))) := by show _ = _; omega
        rw [← hL] at hqc
        rw [← hL]
        have hLi : (n : Int) ≤ (L : Int) := by omega
        have hLq : (n : Int) ≤ (qc : Int) := by omega
        clear HE2 hcell hqz hbt htt hlen hst hst2 hdl hL
        by_cases hcp : qc = n
        · obtain rfl : L = n := by omega
          subst hcp
          clear R
          have R := rdp_none w (some ⟨b', o', none⟩) 0 _ (HZ.out rfl)
          clear HZ
          go_wp2
          go_roundw
          case rel => exact ⟨k + 1, out, by omega, by go_num, R, hown, HL.out, HE3, hbl⟩
          case measure => simp [intOf]; omega
        · clear HZ
          go_wp2
          go_roundw
          case rel => exact ⟨k + 1, out, by omega, by go_num, R, hown, HL.out, HE3, hbl⟩
          case measure => simp [intOf]; omega
      | ins t =>
        simp only [St.val, St.Ok, St.b, St.c] at c0 hsk hbt htt
        have hts := size_cpl hsk.1
        have hP := points_any t wr (by omega) (by omega)
        have hpl := pts_len (t := t) (by omega)
        have hp0 : 0 < (pts t).length := by omega
        have hp1 : (pts t).length ≤ 1000 := by omega
        have HE3 : Hid ((out ++ pts t) ++ apRun (zs.drop (bsum (l.take (k + 1)))) (l.drop (k + 1)) = apRun zs l) := by
          show _ = _
          rw [← HE2.out, apRun, List.append_assoc, hbt, Nat.add_zero]
        have hol : out.length ≤ 1000 := by omega
        have HL : Hid ((out ++ pts t).length = tsum (l.take (k + 1))) := by show _ = _; rw [List.length_append]; omega
        rw [show bsum (l.take k) = bsum (l.take (k + 1)) by omega] at hq
        clear HE2 hbt htt hlen hst hst2 hts hpl hsk
        go_wp2_with (first | (go_at_call 41; refine hP.mono ?_; rintro e w1 ⟨u1, rfl, ho1, hb1⟩; have hown1 := own_belowG hown hb1; have hs1 := hb1.size; have hnw := rdp_own ho1; obtain ⟨a1, c1, hu1, _, hn1⟩ := hnw; obtain ⟨g1, o1, ha1, hg1, hnews⟩ := hn1 hp0; subst ha1; subst hu1) | (at_builtin; refine wpList_append_own _ rfl (.tmp 45) (.tmp 46) 64 rfl w.heap.size 3 i0 (.int .i64 0) 1 8 Try.underlying64 hin hz0 hz1 hz2 rfl (by decide) _ _ _ rfl hown1 ⟨g1, o1, none⟩ (pts t).length c1 (iv (pts t)) rfl (by rw [iv_length]; omega) (iv_cells hnews) (iv_one _) (by unfold maxLen; omega) (by omega) (by omega) ?_; intro v4 w4 ho4 hg4 _))
        have R1 := own_ints ho4 rfl rfl
        have R2 : Below w.heap.size w w4 := (hbl.trans (hb1.mono hsz)).grown hg4 (by omega) (fun k hk => (hown1.lt k hk).1)
        go_roundw
        case rel => exact ⟨k + 1, _, by omega, by go_num, hq, R1, HL.out, HE3, R2⟩
        case measure => simp [intOf]; omega
    · have e : k = l.length := by omega
      subst e
      rw [List.take_length, List.drop_length] at HE
      have HF : Hid (out = apRun zs l) := by show _ = _; rw [← HE.out]; simp [apRun]
      clear HE hc ho
      go_wp2
      go_ret
      exact ⟨_, rfl, by rw [← HF.out]; exact hown, hbl⟩
end Go.Proofs.Ytphbjbigjpfjfaa

/-
  The contracts of Apply, of the reference's Same, and of live.
-/
namespace Go.Proofs.Ytphbjbigjpfjfaa
open Go.ChangeShapes Go.WideShapes Go.ChangeAt Go.RowKit Go.PlainAid

/-- What Apply gives. -/
def apR (s : ByteArray) (ds : List OpD) : ByteArray × Int :=
  if cpl s < 0 then (⟨#[]⟩, 10) else if chk ds ≠ 0 then (⟨#[]⟩, chk ds) else if (bsum (stR ds) : Int) ≠ cpl s then (⟨#[]⟩, 91) else (mk (enc (apRun (pts s) (stR ds))), 0)

theorem pts_ok {t : ByteArray} (h : 0 ≤ cpl t) : ∀ z ∈ pts t, szI z ≠ 0 := (whole_eq (cpl_valid h)).2
theorem apRun_ok : ∀ (l : List St) (zs : List Int), (∀ s ∈ l, s.Ok) → (∀ z ∈ zs, szI z ≠ 0) → ∀ z ∈ apRun zs l, szI z ≠ 0
  | [], _, _, _ => by simp [apRun]
  | .keep n :: l, zs, ho, hz => by
    intro z h
    rw [apRun, List.mem_append] at h
    rcases h with h | h
    · exact hz z (List.mem_of_mem_take h)
    · exact apRun_ok l _ (fun s hs => ho s (by simp [hs])) (fun x hx => hz x (List.mem_of_mem_drop hx)) z h
  | .rem n :: l, zs, ho, hz => by
    intro z h
    rw [apRun] at h
    exact apRun_ok l _ (fun s hs => ho s (by simp [hs])) (fun x hx => hz x (List.mem_of_mem_drop hx)) z h
  | .ins t :: l, zs, ho, hz => by
    intro z h
    rw [apRun, List.mem_append] at h
    rcases h with h | h
    · exact pts_ok (t := t) (by have := ho (.ins t) (by simp); simp only [St.Ok] at this; omega) z h
    · exact apRun_ok l _ (fun s hs => ho s (by simp [hs])) hz z h

theorem rdp_reads {w : World} {base n : Nat} {v : Value} {zs : List Int} (h : w.ownsRow base 3 1 v n (iv zs)) : ReadsI w v zs := by
  have hl := h.1
  rw [iv_length, Nat.mul_one] at hl
  subst hl
  exact readsI_own h

set_option maxHeartbeats 2000000 in
theorem apply_any (s : ByteArray) (v : Value) (ds : List OpD) (w : World) (hs : s.size ≤ maxLen) (hr : RdD w v ds) (hm : ds.length ≤ maxLen) (hi : ∀ o ∈ ds, o.In) :
    Calls Try.prog 18 #[.string s, v] w fun e w' => e = .returned (.tuple #[.string (apR s ds).1, .int .i64 (apR s ds).2]) ∧ Below w.heap.size w w' := by
  have hL := len_any s w hs
  by_cases c0 : cpl s < 0
  · have e : apR s ds = (⟨#[]⟩, 10) := by rw [apR, if_pos c0]
    rw [e]
    generalize cpl s = n at *
    go_enter Try.func18, Try.ntmps18
    go_wp2_with (go_at_call 38; refine hL.mono ?_; rintro e w1 ⟨rfl, rfl⟩)
    go_ret2
    exact ⟨rfl, Below.refl _ _⟩
  · have hS := stepsOf_any v ds w hr hm hi
    have hok := stR_ok hi
    by_cases c1 : chk ds = 0
    · have hbd := stR_bd ds
      have hG := fun u W h => lengths_any u (stR ds) W h (stR_len ds) hok
      rw [c1] at hS
      by_cases c2 : (bsum (stR ds) : Int) = cpl s
      · have HR : Hid (apR s ds = (mk (enc (apRun (pts s) (stR ds))), 0)) := by show _ = _; rw [apR, if_neg c0, if_neg (fun h => h c1), if_neg (fun h => h c2)]
        have hsz : s.size ≤ 4000 := by
          by_cases h : 0 < cpl s
          · have := size_cpl h; omega
          · have hv := cpl_valid (s := s) (by omega)
            have h0 : (cpl s).toNat = 0 := by omega
            rw [h0] at hv
            have := hv.2
            simp [pos] at this
            omega
        have hpl := pts_len (t := s) (by omega)
        have hP := fun W => points_any s W (by omega) (by omega)
        have hA := fun v0 u W h1 h2 => applied_any v0 u (pts s) (stR ds) W h1 h2 (stR_len ds) hok (by omega) hbd.1 hbd.2
        have hal := apRun_len (stR ds) (pts s) (by omega)
        have hX := fun u W h => text_any u (apRun (pts s) (stR ds)) W (by omega) h
        have hxe : textR (apRun (pts s) (stR ds)) = (mk (enc (apRun (pts s) (stR ds))), true) := by rw [textR, if_pos (apRun_ok _ _ hok (pts_ok (by omega)))]
        rw [hxe] at hX
        simp only at hX
        obtain ⟨n, hn⟩ := Int.eq_ofNat_of_zero_le (show 0 ≤ cpl s by omega)
        have hbn : bsum (stR ds) = n := by omega
        rw [hn] at hL
        rw [hbn] at hG
        clear hxe hpl c0 c2 hn hal hbd hok
        generalize mk (enc (apRun (pts s) (stR ds))) = res at *
        go_enter Try.func18, Try.ntmps18
        go_wp2_with (first | (go_at_call 38; refine hL.mono ?_; rintro e w1 ⟨rfl, rfl⟩) | (go_at_call 39; refine hS.mono ?_; rintro e w2 ⟨u, rfl, ho2, hb2⟩) | (go_at_call 40; refine (hG _ _ (rdv_own ho2)).mono ?_; rintro e w3 ⟨rfl, rfl⟩) | (go_at_call 41; refine (hP _).mono ?_; rintro e w4 ⟨u4, rfl, ho4, hb4⟩) | (go_at_call 43; refine (hA _ _ _ (rdp_own ho4) ((rdv_own ho2).below hb4)).mono ?_; rintro e w5 ⟨u5, rfl, ho5, hb5⟩) | (go_at_call 42; refine (hX _ _ (rdp_reads ho5)).mono ?_; rintro e w6 ⟨rfl, hb6⟩))
        go_ret2
        exact ⟨by rw [HR.out]; rfl, chain (chain (chain hb2 hb4) hb5) hb6⟩
      · have e : apR s ds = (⟨#[]⟩, 91) := by rw [apR, if_neg c0, if_neg (fun h => h c1), if_pos c2]
        rw [e]
        have hne : ((bsum (stR ds) : Int) != cpl s) = true := by simpa using c2
        clear c2 hbd
        generalize bsum (stR ds) = B at *
        generalize cpl s = n at *
        go_enter Try.func18, Try.ntmps18
        go_wp2_with (first | (go_at_call 38; refine hL.mono ?_; rintro e w1 ⟨rfl, rfl⟩) | (go_at_call 39; refine hS.mono ?_; rintro e w2 ⟨u, rfl, ho2, hb2⟩) | (go_at_call 40; refine (hG _ _ (rdv_own ho2)).mono ?_; rintro e w3 ⟨rfl, rfl⟩))
        go_ret2
        exact ⟨rfl, hb2⟩
    · have e : apR s ds = (⟨#[]⟩, chk ds) := by rw [apR, if_neg c0, if_pos c1]
      rw [e]
      have hne : (chk ds != 0) = true := by simpa using c1
      clear e
      generalize chk ds = c at *
      generalize cpl s = n at *
      go_enter Try.func18, Try.ntmps18
      go_wp2_with (first | (go_at_call 38; refine hL.mono ?_; rintro e w1 ⟨rfl, rfl⟩) | (go_at_call 39; refine hS.mono ?_; rintro e w2 ⟨u, rfl, ho2, hb2⟩))
      go_ret2
      exact ⟨rfl, hb2⟩

set_option maxRecDepth 20000 in
set_option maxHeartbeats 2000000 in
theorem same_true (va vb : Value) (l : List OpD) (w : World) (hm : l.length ≤ maxLen) (ha : RdD w va l) (hb : RdD w vb l) :
    Calls Try.prog 12 #[va, vb] w fun e w' => e = .returned (.bool true) ∧ Below w.heap.size w w' := by
  obtain ⟨ao, ac, rfl, _, hac⟩ := ha
  obtain ⟨bo, bc, rfl, _, hbc⟩ := hb
  unfold maxLen at hm
  go_enter Try.func12, Try.ntmps12
  go_wp2
  go_loopw [5] (fun i wr => ∃ k : Nat, k ≤ l.length ∧ i = .int .i64 (k : Int) ∧ Below w.heap.size w wr) (fun i _ => l.length - (intOf i).toNat)
  case atStart => exact ⟨0, by omega, rfl, Below.refl _ _⟩
  case round =>
    obtain ⟨k, hk, rfl, hbl⟩ := hrel
    by_cases hlt : k < l.length
    · have hlt' : (k : Int) < (l.length : Int) := by omega
      obtain ⟨b1, o1, rfl, hb1, c0, c1, c2⟩ := hac k l[k] (by simp [hlt])
      obtain ⟨b2, o2, rfl, hb2, d0, d1, d2⟩ := hbc k l[k] (by simp [hlt])
      have hB1 : ∀ o, wr.cell? ⟨b1, o, none⟩ = w.cell? ⟨b1, o, none⟩ := fun o => hbl.cell (p := ⟨b1, o, none⟩) hb1
      have hB2 : ∀ o, wr.cell? ⟨b2, o, none⟩ = w.cell? ⟨b2, o, none⟩ := fun o => hbl.cell (p := ⟨b2, o, none⟩) hb2
      rw [← hB1] at c0 c1 c2
      rw [← hB2] at d0 d1 d2
      clear hB1 hB2 hac hbc
      generalize l[k] = o at *
      go_wp2
      go_quiet (fail)
      go_wp2
      go_roundw
      case rel => exact ⟨k + 1, by omega, by go_num, below_drewN hbl _⟩
      case measure => simp [intOf]; omega
    · clear hac hbc
      go_wp2
      go_ret
      exact ⟨rfl, hbl⟩
end Go.Proofs.Ytphbjbigjpfjfaa

/-
  Deltas as words of single code points: what is kept and put in tells the normal form. No walk.
-/
namespace Go.Proofs.Ytphbjbigjpfjfaa
open Go.RowKit Go.PlainAid

/-- One code point: kept, removed, put in. -/
inductive U where
  | K
  | R
  | I (z : Int)

def baseU : List U → Nat
  | [] => 0
  | .I _ :: w => baseU w
  | _ :: w => 1 + baseU w
/-- What a word gives of a base whose code points are numbered. -/
def mkU : Nat → List U → List (Nat ⊕ Int)
  | _, [] => []
  | a, .K :: w => .inl a :: mkU (a + 1) w
  | a, .R :: w => mkU (a + 1) w
  | a, .I z :: w => .inr z :: mkU a w

theorem baseU_append : ∀ (a b : List U), baseU (a ++ b) = baseU a + baseU b
  | [], b => by simp [baseU]
  | .K :: a, b => by simp only [List.cons_append, baseU]; rw [baseU_append a b]; omega
  | .R :: a, b => by simp only [List.cons_append, baseU]; rw [baseU_append a b]; omega
  | .I _ :: a, b => by simp only [List.cons_append, baseU]; exact baseU_append a b
theorem mkU_append : ∀ (a b : List U) (i : Nat), mkU i (a ++ b) = mkU i a ++ mkU (i + baseU a) b
  | [], b, i => by simp [mkU, baseU]
  | .K :: a, b, i => by simp only [List.cons_append, mkU, baseU]; rw [mkU_append a b, show i + 1 + baseU a = i + (1 + baseU a) by omega]
  | .R :: a, b, i => by simp only [List.cons_append, mkU, baseU]; rw [mkU_append a b, show i + 1 + baseU a = i + (1 + baseU a) by omega]
  | .I _ :: a, b, i => by simp only [List.cons_append, mkU, baseU]; rw [mkU_append a b]
theorem baseU_K (n : Nat) : baseU (List.replicate n .K) = n := by
  induction n with
  | zero => rfl
  | succ n ih => rw [List.replicate_succ, baseU, ih]; omega; simp
theorem baseU_R (n : Nat) : baseU (List.replicate n .R) = n := by
  induction n with
  | zero => rfl
  | succ n ih => rw [List.replicate_succ, baseU, ih]; omega; simp
theorem baseU_I (p : List Int) : baseU (p.map .I) = 0 := by
  induction p with
  | nil => rfl
  | cons z p ih => rw [List.map_cons, baseU, ih]
theorem mkU_R (n i : Nat) : mkU i (List.replicate n .R) = [] := by
  induction n generalizing i with
  | zero => rfl
  | succ n ih => rw [List.replicate_succ, mkU, ih]
theorem mkU_I (p : List Int) (i : Nat) : mkU i (p.map .I) = p.map .inr := by
  induction p with
  | nil => rfl
  | cons z p ih => rw [List.map_cons, mkU, ih, List.map_cons]

/-- The word of what is kept and put in: what is put in comes first. -/
def wdU (n : Nat) : Nat → List (Nat ⊕ Int) → List U
  | a, [] => List.replicate (n - a) .R
  | a, .inr z :: m => .I z :: wdU n a m
  | a, .inl i :: m => List.replicate (i - a) .R ++ (.K :: wdU n (i + 1) m)

/-- A step, its text as code points. -/
inductive PS where
  | keep (n : Nat)
  | rem (n : Nat)
  | ins (p : List Int)
def PS.u : PS → List U
  | .keep n => List.replicate n .K
  | .rem n => List.replicate n .R
  | .ins p => p.map .I
def PS.st : PS → St
  | .keep n => .keep n
  | .rem n => .rem n
  | .ins p => .ins (mk (enc p))
def PS.op (s : PS) : OpD := s.st.op
def pw (l : List PS) : List U := (l.map PS.u).flatten
theorem pw_append (a b : List PS) : pw (a ++ b) = pw a ++ pw b := by simp [pw]

def flushP (kept : Nat) (put : List Int) (gone : Nat) : List PS :=
  (if 0 < kept then [.keep kept] else []) ++ ((if 0 < put.length then [.ins put] else []) ++ (if 0 < gone then [.rem gone] else []))
theorem pw_flush (kept : Nat) (put : List Int) (gone : Nat) : pw (flushP kept put gone) = List.replicate kept .K ++ (put.map .I ++ List.replicate gone .R) := by
  have h1 : pw (if 0 < kept then [.keep kept] else []) = List.replicate kept .K := by
    split
    · simp [pw, PS.u]
    · have : kept = 0 := by omega
      subst this; rfl
  have h2 : pw (if 0 < put.length then [.ins put] else []) = put.map .I := by
    split
    · simp [pw, PS.u]
    · have : put = [] := List.eq_nil_of_length_eq_zero (by omega)
      subst this; rfl
  have h3 : pw (if 0 < gone then [.rem gone] else []) = List.replicate gone .R := by
    split
    · simp [pw, PS.u]
    · have : gone = 0 := by omega
      subst this; rfl
  rw [flushP, pw_append, pw_append, h1, h2, h3]
theorem enc_pos (p : List Int) : 0 < (enc p).length ↔ 0 < p.length := by
  cases p with
  | nil => simp [enc]
  | cons z p =>
    rw [enc_cons, List.length_append]
    have := ptB_len z.toNat
    simp
    omega
theorem flush_op (kept : Nat) (put : List Int) (gone : Nat) : (flushP kept put gone).map PS.op = flushD kept (enc put) gone := by
  unfold flushP flushD
  simp only [enc_pos]
  split <;> split <;> split <;> rfl

/-- Joining, code point by code point. -/
structure JU where
  D : List PS
  kept : Nat
  put : List Int
  gone : Nat
def JU.add (σ : JU) : U → JU
  | .K => if 0 < σ.put.length ∨ 0 < σ.gone then ⟨σ.D ++ flushP σ.kept σ.put σ.gone, 1, [], 0⟩ else ⟨σ.D, σ.kept + 1, σ.put, σ.gone⟩
  | .R => ⟨σ.D, σ.kept, σ.put, σ.gone + 1⟩
  | .I z => ⟨σ.D, σ.kept, σ.put ++ [z], σ.gone⟩
def JU.out (σ : JU) : List PS := σ.D ++ flushP σ.kept σ.put σ.gone
def ju (σ : JU) (w : List U) : JU := w.foldl JU.add σ
theorem ju_append (σ : JU) (a b : List U) : ju σ (a ++ b) = ju (ju σ a) b := by simp [ju]
theorem ju_cons (σ : JU) (x : U) (b : List U) : ju σ (x :: b) = ju (σ.add x) b := by simp [ju]
/-- The normal form of a word. -/
def nfU (w : List U) : List PS := (ju ⟨[], 0, [], 0⟩ w).out

theorem ju_R (n : Nat) (σ : JU) : ju σ (List.replicate n .R) = ⟨σ.D, σ.kept, σ.put, σ.gone + n⟩ := by
  induction n generalizing σ with
  | zero => rfl
  | succ n ih => rw [List.replicate_succ, ju_cons, ih]; simp only [JU.add]; congr 1; omega
theorem ju_I (p : List Int) (σ : JU) : ju σ (p.map .I) = ⟨σ.D, σ.kept, σ.put ++ p, σ.gone⟩ := by
  induction p generalizing σ with
  | nil => simp [ju]
  | cons z p ih => rw [List.map_cons, ju_cons, ih]; simp only [JU.add]; congr 1; simp
theorem ju_K0 (n : Nat) (D : List PS) (k : Nat) : ju ⟨D, k, [], 0⟩ (List.replicate n .K) = ⟨D, k + n, [], 0⟩ := by
  induction n generalizing k with
  | zero => rfl
  | succ n ih =>
    rw [List.replicate_succ, ju_cons, JU.add, if_neg (by simp), ih]
    show (⟨D, k + 1 + n, [], 0⟩ : JU) = ⟨D, k + (n + 1), [], 0⟩
    congr 1; omega

/-- What is removed may wait behind what is put in. -/
theorem ju_swap (σ : JU) (r : Nat) (z : Int) (w : List U) : ju σ (List.replicate r .R ++ (.I z :: w)) = ju (σ.add (.I z)) (List.replicate r .R ++ w) := by
  rw [ju_append, ju_append, ju_R, ju_R, ju_cons]
  rfl

theorem ju_canon (n : Nat) : ∀ (w : List U) (σ : JU) (a r : Nat), a + r + baseU w = n → ju σ (List.replicate r .R ++ w) = ju σ (wdU n a (mkU (a + r) w))
  | [], σ, a, r, h => by
    simp only [baseU] at h
    rw [mkU, wdU, List.append_nil, show n - a = r by omega]
  | .K :: w, σ, a, r, h => by
    simp only [baseU] at h
    have ih := fun τ => ju_canon n w τ (a + r + 1) 0 (by omega)
    simp only [List.replicate_zero, List.nil_append, Nat.add_zero] at ih
    rw [mkU, wdU, show a + r - a = r by omega, ju_append, ju_append, ju_cons, ju_cons, ih]
  | .R :: w, σ, a, r, h => by
    simp only [baseU] at h
    have ih := ju_canon n w σ a (r + 1) (by omega)
    have e : List.replicate r U.R ++ (.R :: w) = List.replicate (r + 1) U.R ++ w := by
      rw [List.replicate_succ']; simp
    rw [e, ih, mkU, Nat.add_assoc]
  | .I z :: w, σ, a, r, h => by
    simp only [baseU] at h
    rw [ju_swap, mkU, wdU, ju_cons, ju_canon n w _ a r h]
/-- The normal form hangs only on the base and on what is kept and put in. -/
theorem nf_of_marks {w w' : List U} (h1 : baseU w = baseU w') (h2 : mkU 0 w = mkU 0 w') : nfU w = nfU w' := by
  have e1 := ju_canon (baseU w) w ⟨[], 0, [], 0⟩ 0 0 (by omega)
  have e2 := ju_canon (baseU w) w' ⟨[], 0, [], 0⟩ 0 0 (by omega)
  simp only [List.replicate_zero, List.nil_append, Nat.add_zero] at e1 e2
  rw [nfU, nfU, e1, e2, h2]

/-- Words that do the same. -/
def Eqv (w w' : List U) : Prop := baseU w = baseU w' ∧ ∀ a, mkU a w = mkU a w'
theorem Eqv.rfl' (w : List U) : Eqv w w := ⟨rfl, fun _ => rfl⟩
theorem Eqv.trans {a b c : List U} (h : Eqv a b) (k : Eqv b c) : Eqv a c := ⟨h.1.trans k.1, fun i => (h.2 i).trans (k.2 i)⟩
theorem Eqv.append {a b c d : List U} (h : Eqv a b) (k : Eqv c d) : Eqv (a ++ c) (b ++ d) :=
  ⟨by rw [baseU_append, baseU_append, h.1, k.1], fun i => by rw [mkU_append, mkU_append, h.2, h.1, k.2]⟩
theorem Eqv.of_eq {a b : List U} (h : a = b) : Eqv a b := h ▸ Eqv.rfl' a
theorem eqv_swap (z : Int) (g : Nat) : Eqv ([.I z] ++ List.replicate g .R) (List.replicate g .R ++ [.I z]) := by
  refine ⟨by rw [baseU_append, baseU_append]; omega, fun a => ?_⟩
  rw [mkU_append, mkU_append, mkU_R, mkU_R, baseU_R]
  rfl

theorem add_eqv (σ : JU) (x : U) : Eqv (pw (σ.add x).out) (pw σ.out ++ [x]) := by
  cases x with
  | K =>
    simp only [JU.add]
    split
    · refine Eqv.of_eq ?_
      simp only [JU.out]
      rw [pw_append, pw_append, pw_flush, pw_flush]
      simp
    · rename_i h
      have h1 : σ.put = [] := List.eq_nil_of_length_eq_zero (by omega)
      have h2 : σ.gone = 0 := by omega
      refine Eqv.of_eq ?_
      simp only [JU.out]
      rw [pw_append, pw_append, pw_flush, pw_flush, h1, h2, List.replicate_succ']
      simp
  | R =>
    refine Eqv.of_eq ?_
    simp only [JU.add, JU.out]
    rw [pw_append, pw_append, pw_flush, pw_flush, List.replicate_succ']
    simp
  | I z =>
    simp only [JU.add, JU.out]
    rw [pw_append, pw_append, pw_flush, pw_flush]
    have e1 : pw σ.D ++ (List.replicate σ.kept U.K ++ ((σ.put ++ [z]).map U.I ++ List.replicate σ.gone U.R)) = (pw σ.D ++ List.replicate σ.kept U.K ++ σ.put.map U.I) ++ ([U.I z] ++ List.replicate σ.gone U.R) := by simp
    have e2 : pw σ.D ++ (List.replicate σ.kept U.K ++ (σ.put.map U.I ++ List.replicate σ.gone U.R)) ++ [U.I z] = (pw σ.D ++ List.replicate σ.kept U.K ++ σ.put.map U.I) ++ (List.replicate σ.gone U.R ++ [U.I z]) := by simp
    rw [e1, e2]
    exact (Eqv.rfl' _).append (eqv_swap z σ.gone)
theorem ju_eqv : ∀ (w : List U) (σ : JU), Eqv (pw (ju σ w).out) (pw σ.out ++ w)
  | [], σ => Eqv.of_eq (by simp [ju])
  | x :: w, σ => by
    rw [ju_cons]
    have h := (ju_eqv w (σ.add x)).trans ((add_eqv σ x).append (Eqv.rfl' w))
    rw [List.append_assoc] at h
    exact h
/-- The normal form does the same. -/
theorem nf_eqv (w : List U) : Eqv (pw (nfU w)) w := by
  have h := ju_eqv w ⟨[], 0, [], 0⟩
  have e : pw (JU.out ⟨[], 0, [], 0⟩) = [] := rfl
  rw [e, List.nil_append] at h
  exact h
/-- The normal form of a normal form is itself. -/
theorem nf_idem (w : List U) : nfU (pw (nfU w)) = nfU w := nf_of_marks (nf_eqv w).1 ((nf_eqv w).2 0)

/-- How many code points a word gives. -/
def targU (w : List U) : Nat := (mkU 0 w).length
theorem mkU_len (w : List U) (a b : Nat) : (mkU a w).length = (mkU b w).length := by
  induction w generalizing a b with
  | nil => rfl
  | cons x w ih =>
    cases x with
    | K => simp only [mkU, List.length_cons]; rw [ih (a + 1) (b + 1)]
    | R => simp only [mkU]; exact ih _ _
    | I z => simp only [mkU, List.length_cons]; rw [ih a b]
theorem targU_append (a b : List U) : targU (a ++ b) = targU a + targU b := by
  rw [targU, mkU_append, List.length_append, mkU_len b (0 + baseU a) 0]; rfl
theorem Eqv.targ {a b : List U} (h : Eqv a b) : targU a = targU b := by rw [targU, targU, h.2]
end Go.Proofs.Ytphbjbigjpfjfaa

/-
  The steps of a delta and their word; what follows for Normal. No walk.
-/
namespace Go.Proofs.Ytphbjbigjpfjfaa
open Go.RowKit Go.PlainAid

def St.u : St → List U
  | .keep n => List.replicate n .K
  | .rem n => List.replicate n .R
  | .ins t => (pts t).map .I
/-- The word of steps. -/
def uw (l : List St) : List U := (l.map St.u).flatten
theorem uw_append (a b : List St) : uw (a ++ b) = uw a ++ uw b := by simp [uw]
theorem uw_cons (s : St) (l : List St) : uw (s :: l) = s.u ++ uw l := by simp [uw]
theorem base_u (s : St) : baseU s.u = s.b := by
  cases s with
  | keep n => exact baseU_K n
  | rem n => exact baseU_R n
  | ins t => exact baseU_I _
theorem base_uw : ∀ l : List St, baseU (uw l) = bsum l
  | [] => rfl
  | s :: l => by rw [uw_cons, baseU_append, base_u, base_uw l]; simp [bsum]
theorem mkU_K (n i : Nat) : mkU i (List.replicate n .K) = (List.range n).map (fun j => .inl (i + j)) := by
  induction n generalizing i with
  | zero => rfl
  | succ n ih =>
    rw [List.replicate_succ, mkU, ih, List.range_succ_eq_map]
    simp only [List.map_cons, List.map_map]
    congr 1
    apply List.map_congr_left
    intro j _
    simp only [Function.comp]
    congr 1; omega
theorem targ_u (s : St) : targU s.u = s.c := by
  cases s with
  | keep n => rw [targU, St.u, mkU_K]; simp [St.c]
  | rem n => rw [targU, St.u, mkU_R]; rfl
  | ins t => rw [targU, St.u, mkU_I]; simp [St.c, pts, ptL_length]
theorem targ_uw : ∀ l : List St, targU (uw l) = tsum l
  | [] => rfl
  | s :: l => by rw [uw_cons, targU_append, targ_u, targ_uw l]; simp [tsum]

theorem ins_enc {t : ByteArray} (h : 0 ≤ cpl t) : t.data.toList = enc (pts t) := by
  have h1 := (whole_eq (cpl_valid h)).1
  have h2 := congrArg (fun b : ByteArray => b.data.toList) h1
  simp only [mk_toList] at h2
  exact h2.symm

/-- Joining by steps is joining by code points. -/
structure RelJ (σ : JS) (τ : JU) : Prop where
  D : σ.D = τ.D.map PS.op
  kept : σ.kept = τ.kept
  put : σ.put = enc τ.put
  gone : σ.gone = τ.gone
theorem relJ_add {σ : JS} {τ : JU} (h : RelJ σ τ) {s : St} (hs : s.Ok) : RelJ (σ.add s) (ju τ s.u) := by
  obtain ⟨SD, sk, sp, sg⟩ := σ
  obtain ⟨D, k, p, g⟩ := τ
  obtain ⟨h1, h2, h3, h4⟩ := h
  simp only at h1 h2 h3 h4
  subst h1; subst h2; subst h3; subst h4
  cases s with
  | keep n =>
    simp only [St.Ok] at hs
    obtain ⟨m, rfl⟩ : ∃ m, n = m + 1 := ⟨n - 1, by omega⟩
    simp only [JS.add, St.u, List.replicate_succ, ju_cons, JU.add, enc_pos]
    split
    · rw [ju_K0]
      exact ⟨by simp [flush_op], by simp only; omega, rfl, rfl⟩
    · rename_i hc
      have e1 : p = [] := List.eq_nil_of_length_eq_zero (by omega)
      have e2 : sg = 0 := by omega
      subst e1; subst e2
      rw [ju_K0]
      exact ⟨rfl, by simp only; omega, rfl, rfl⟩
  | rem n =>
    simp only [JS.add, St.u]
    rw [ju_R]
    exact ⟨rfl, rfl, rfl, rfl⟩
  | ins t =>
    simp only [St.Ok] at hs
    simp only [JS.add, St.u]
    rw [ju_I]
    exact ⟨rfl, rfl, by simp only; rw [enc_append, ins_enc (by omega)], rfl⟩
theorem relJ_run : ∀ (l : List St) (σ : JS) (τ : JU), RelJ σ τ → (∀ s ∈ l, s.Ok) → RelJ (l.foldl JS.add σ) (ju τ (uw l))
  | [], _, _, h, _ => h
  | s :: l, σ, τ, h, ho => by
    rw [uw_cons, ju_append]
    exact relJ_run l _ _ (relJ_add h (ho s (by simp))) (fun x hx => ho x (by simp [hx]))
theorem jn_eq {l : List St} (ho : ∀ s ∈ l, s.Ok) : jn l = (nfU (uw l)).map PS.op := by
  have h := relJ_run l ⟨[], 0, [], 0⟩ ⟨[], 0, [], 0⟩ ⟨rfl, rfl, rfl, rfl⟩ ho
  rw [jn, JS.out, nfU, JU.out, List.map_append, flush_op]
  rw [show (jrun l).D = _ from h.D, show (jrun l).kept = _ from h.kept, show (jrun l).put = _ from h.put, show (jrun l).gone = _ from h.gone]

/-- A point step that may be. -/
def PS.Ok : PS → Prop
  | .keep n => 0 < n
  | .rem n => 0 < n
  | .ins p => 0 < p.length ∧ ∀ z ∈ p, szI z ≠ 0
/-- All that a word puts in are code points. -/
def PtsU (w : List U) : Prop := ∀ z, U.I z ∈ w → szI z ≠ 0
theorem flush_ok (k : Nat) (p : List Int) (g : Nat) (hp : ∀ z ∈ p, szI z ≠ 0) : ∀ s ∈ flushP k p g, s.Ok := by
  intro s hs
  simp only [flushP, List.mem_append] at hs
  rcases hs with hs | hs | hs
  · split at hs
    · rename_i h; simp at hs; subst hs; exact h
    · simp at hs
  · split at hs
    · rename_i h; simp at hs; subst hs; exact ⟨h, hp⟩
    · simp at hs
  · split at hs
    · rename_i h; simp at hs; subst hs; exact h
    · simp at hs
theorem ju_ok : ∀ (w : List U) (σ : JU), PtsU w → (∀ s ∈ σ.D, s.Ok) → (∀ z ∈ σ.put, szI z ≠ 0) → ∀ s ∈ (ju σ w).out, s.Ok
  | [], σ, _, h1, h2 => by
    intro s hs
    simp only [ju, List.foldl_nil, JU.out, List.mem_append] at hs
    rcases hs with hs | hs
    · exact h1 s hs
    · exact flush_ok _ _ _ h2 s hs
  | x :: w, σ, hw, h1, h2 => by
    rw [ju_cons]
    refine ju_ok w _ (fun z hz => hw z (by simp [hz])) ?_ ?_
    · cases x with
      | K =>
        simp only [JU.add]
        split
        · intro s hs
          simp only [List.mem_append] at hs
          rcases hs with hs | hs
          · exact h1 s hs
          · exact flush_ok _ _ _ h2 s hs
        · exact h1
      | R => exact h1
      | I z => exact h1
    · cases x with
      | K =>
        simp only [JU.add]
        split
        · simp
        · exact h2
      | R => exact h2
      | I z =>
        intro y hy
        simp only [JU.add, List.mem_append, List.mem_singleton] at hy
        rcases hy with hy | rfl
        · exact h2 y hy
        · exact hw y (by simp)
theorem nf_ok {w : List U} (h : PtsU w) : ∀ s ∈ nfU w, s.Ok := ju_ok w _ h (by simp) (by simp)
theorem ptsU_uw {l : List St} (ho : ∀ s ∈ l, s.Ok) : PtsU (uw l) := by
  intro z hz
  simp only [uw, List.mem_flatten, List.mem_map] at hz
  obtain ⟨_, ⟨s, hs, rfl⟩, hz⟩ := hz
  have := ho s hs
  cases s with
  | keep n => simp [St.u, List.mem_replicate] at hz
  | rem n => simp [St.u, List.mem_replicate] at hz
  | ins t =>
    simp only [St.u, List.mem_map] at hz
    obtain ⟨y, hy, e⟩ := hz
    injection e with e
    subst e
    simp only [St.Ok] at this
    exact pts_ok (by omega) _ hy

theorem cpl_enc {p : List Int} (h : ∀ z ∈ p, szI z ≠ 0) : cpl (mk (enc p)) = (p.length : Int) ∧ pts (mk (enc p)) = p := by
  have hv := valid_enc p h
  have e := cpl_ok hv.1
  refine ⟨e, ?_⟩
  rw [pts, e, Int.toNat_natCast]
  exact hv.2
theorem st_u {s : PS} (h : s.Ok) : s.st.u = s.u := by
  cases s with
  | keep n => rfl
  | rem n => rfl
  | ins p => simp only [PS.st, St.u, PS.u]; rw [(cpl_enc h.2).2]
theorem uw_st : ∀ {l : List PS}, (∀ s ∈ l, s.Ok) → uw (l.map PS.st) = pw l
  | [], _ => rfl
  | s :: l, h => by
    rw [List.map_cons, uw_cons, st_u (h s (by simp)), uw_st (fun x hx => h x (by simp [hx]))]
    simp [pw]
/-- How much of base and target a point step takes. -/
def PS.z : PS → Nat
  | .keep n => n
  | .rem n => n
  | .ins p => p.length
theorem stOf_op {s : PS} (h : s.Ok) (hz : s.z ≤ 1000) : stOf s.op = some s.st := by
  cases s with
  | keep n =>
    simp only [PS.Ok] at h
    simp only [PS.z] at hz
    simp only [PS.op, PS.st, St.op, stOf]
    rw [if_pos ⟨by omega, by omega, rfl⟩, if_pos trivial]
    simp
  | rem n =>
    simp only [PS.Ok] at h
    simp only [PS.z] at hz
    simp only [PS.op, PS.st, St.op, stOf]
    rw [if_pos ⟨by omega, by omega, rfl⟩]
    simp
  | ins p =>
    have h1 := (cpl_enc h.2).1
    have h2 := h.1
    simp only [PS.op, PS.st, St.op, stOf]
    rw [if_neg (by omega), if_pos ⟨trivial, trivial, by rw [h1]; omega⟩]
theorem pw_cons (s : PS) (l : List PS) : pw (s :: l) = s.u ++ pw l := by simp [pw]
theorem z_le {s : PS} (h : s.Ok) : s.z ≤ baseU s.u + targU s.u ∧ 1 ≤ s.z ∧ (s.z ≤ baseU s.u ∨ s.z ≤ targU s.u) := by
  cases s with
  | keep n => have e : baseU (PS.u (.keep n)) = n := baseU_K n; simp only [PS.Ok] at h; simp only [PS.z]; omega
  | rem n => have e : baseU (PS.u (.rem n)) = n := baseU_R n; simp only [PS.Ok] at h; simp only [PS.z]; omega
  | ins p =>
    have e : targU (PS.u (.ins p)) = p.length := by rw [targU, PS.u, mkU_I]; simp
    have := h.1
    simp only [PS.z]; omega
theorem len_z : ∀ {l : List PS}, (∀ s ∈ l, s.Ok) → l.length ≤ baseU (pw l) + targU (pw l) ∧ ∀ s ∈ l, s.z ≤ baseU (pw l) ∨ s.z ≤ targU (pw l)
  | [], _ => by simp
  | s :: l, h => by
    have h1 := z_le (h s (by simp))
    have h2 := len_z (l := l) (fun x hx => h x (by simp [hx]))
    rw [pw_cons, baseU_append, targU_append, List.length_cons]
    refine ⟨by omega, fun x hx => ?_⟩
    rcases List.mem_cons.1 hx with rfl | hx
    · omega
    · have := h2.2 x hx; omega
/-- A list of point steps of which base and target may be: its operations are a delta. -/
theorem chk_ps {l : List PS} (h : ∀ s ∈ l, s.Ok) (h1 : baseU (pw l) ≤ 1000) (h2 : targU (pw l) ≤ 1000) : chk (l.map PS.op) = 0 ∧ stR (l.map PS.op) = l.map PS.st := by
  have hl := len_z h
  have hs : ∀ s ∈ l, stOf s.op = some s.st := fun s hs => stOf_op (h s hs) (by have := hl.2 s hs; omega)
  have e : stl (l.map PS.op) = l.map PS.st := by
    rw [stl, List.filterMap_map]
    clear hl h h1 h2
    induction l with
    | nil => rfl
    | cons s l ih =>
      rw [List.filterMap_cons]
      simp only [Function.comp]
      rw [hs s (by simp), List.map_cons, ih (fun x hx => hs x (by simp [hx]))]
  have hany : (l.map PS.op).any (fun o => (stOf o).isNone) = false := by
    rw [List.any_eq_false]
    intro o ho
    obtain ⟨s, hs', rfl⟩ := List.mem_map.1 ho
    rw [hs s hs']; simp
  have hb : bsum (l.map PS.st) = baseU (pw l) := by rw [← base_uw, uw_st h]
  have ht : tsum (l.map PS.st) = targU (pw l) := by rw [← targ_uw, uw_st h]
  have hc : chk (l.map PS.op) = 0 := by
    rw [chk, if_neg (by rw [List.length_map]; omega), hany, if_neg (by simp), e, if_neg (by rw [hb, ht]; omega)]
  exact ⟨hc, by rw [chk_yes _ hc, e]⟩

/-- Normal of a delta that may be. -/
theorem normal_facts {l : List St} (ho : ∀ s ∈ l, s.Ok) (h1 : bsum l ≤ 1000) (h2 : tsum l ≤ 1000) :
    chk (jn l) = 0 ∧ jn (stR (jn l)) = jn l ∧ Eqv (uw (stR (jn l))) (uw l) ∧ bsum (stR (jn l)) = bsum l ∧ tsum (stR (jn l)) = tsum l := by
  have hw := ptsU_uw ho
  have hn := nf_ok hw
  have he := nf_eqv (uw l)
  have hb : baseU (pw (nfU (uw l))) = bsum l := by rw [he.1, base_uw]
  have ht : targU (pw (nfU (uw l))) = tsum l := by rw [he.targ, targ_uw]
  obtain ⟨c1, c2⟩ := chk_ps hn (by omega) (by omega)
  rw [← jn_eq ho] at c1 c2
  have hu : uw (stR (jn l)) = pw (nfU (uw l)) := by rw [c2, uw_st hn]
  have hok : ∀ s ∈ stR (jn l), s.Ok := by
    intro s hs
    rw [c2] at hs
    obtain ⟨x, hx, rfl⟩ := List.mem_map.1 hs
    have hz := (len_z hn).2 x hx
    have hxo := hn x hx
    cases x with
    | keep n => simp only [PS.Ok] at hxo; simp only [PS.z] at hz; simp only [PS.st, St.Ok]; omega
    | rem n => simp only [PS.Ok] at hxo; simp only [PS.z] at hz; simp only [PS.st, St.Ok]; omega
    | ins p =>
      have e := (cpl_enc hxo.2).1
      have hp := hxo.1
      have hl := enc_len p
      simp only [PS.z] at hz
      simp only [PS.st, St.Ok]
      rw [e, mk_size]
      omega
  refine ⟨c1, ?_, ?_, ?_, ?_⟩
  · rw [jn_eq hok, hu, nf_idem, ← jn_eq ho]
  · rw [hu]; exact he
  · rw [← base_uw, hu, hb]
  · rw [← targ_uw, hu, ht]

/-- What is given of code points, by what is kept and put in. -/
def apM (zs : List Int) (ms : List (Nat ⊕ Int)) : List Int := ms.map (fun m => match m with | .inl i => zs.getD i 0 | .inr z => z)
theorem apRun_marks : ∀ (l : List St) (zs : List Int) (a : Nat), a + bsum l ≤ zs.length → apRun (zs.drop a) l = apM zs (mkU a (uw l))
  | [], _, _, _ => rfl
  | .keep n :: l, zs, a, h => by
    have e1 : bsum (.keep n :: l) = n + bsum l := by simp [bsum, St.b]
    rw [e1] at h
    have ih := apRun_marks l zs (a + n) (by omega)
    rw [apRun, List.drop_drop, ih, uw_cons, mkU_append, base_u, apM, apM, List.map_append]
    congr 1
    simp only [St.u, mkU_K, List.map_map]
    apply List.ext_getElem
    · rw [List.length_take, List.length_drop]; simp; omega
    · intro i g1 g2
      simp at g2
      simp
      rw [List.getElem?_eq_getElem (by omega)]
      rfl
  | .rem n :: l, zs, a, h => by
    have e1 : bsum (.rem n :: l) = n + bsum l := by simp [bsum, St.b]
    rw [e1] at h
    have ih := apRun_marks l zs (a + n) (by omega)
    rw [apRun, List.drop_drop, ih, uw_cons, mkU_append, base_u]
    simp only [St.u, mkU_R, List.nil_append, St.b]
  | .ins t :: l, zs, a, h => by
    have e1 : bsum (.ins t :: l) = bsum l := by simp [bsum, St.b]
    rw [e1] at h
    have ih := apRun_marks l zs a h
    rw [apRun, ih, uw_cons, mkU_append, base_u, apM, apM, List.map_append]
    simp only [St.u, mkU_I, St.b, List.map_map, Nat.add_zero]
    congr 1
    rw [show ((fun m : Nat ⊕ Int => match m with | .inl i => zs.getD i 0 | .inr z => z) ∘ Sum.inr) = id from rfl, List.map_id]
theorem apRun_eqv {l l' : List St} (zs : List Int) (h : Eqv (uw l) (uw l')) (hb : bsum l ≤ zs.length) (hb' : bsum l' ≤ zs.length) : apRun zs l = apRun zs l' := by
  have e1 := apRun_marks l zs 0 (by omega)
  have e2 := apRun_marks l' zs 0 (by omega)
  rw [List.drop_zero] at e1 e2
  rw [e1, e2, h.2]
/-- A delta and its Normal do the same. -/
theorem apR_normal {ds : List OpD} (hi : ∀ o ∈ ds, o.In) (hc : chk ds = 0) (s : ByteArray) : apR s (jn (stR ds)) = apR s ds := by
  have hbd := stR_bd ds
  obtain ⟨n1, n2, n3, n4, n5⟩ := normal_facts (stR_ok hi) hbd.1 hbd.2
  have f : ∀ D : List OpD, chk D = 0 → ¬ cpl s < 0 → apR s D = if (bsum (stR D) : Int) ≠ cpl s then (⟨#[]⟩, 91) else (mk (enc (apRun (pts s) (stR D))), 0) := fun D h1 h2 => by
    rw [apR, if_neg h2, if_neg (fun h => h h1)]
  by_cases c0 : cpl s < 0
  · rw [apR, apR, if_pos c0, if_pos c0]
  · rw [f _ n1 c0, f _ hc c0, n4]
    by_cases c2 : (bsum (stR ds) : Int) = cpl s
    · have hp := pts_len (t := s) (by omega)
      rw [if_neg (fun h => h c2), if_neg (fun h => h c2), apRun_eqv (pts s) n3 (by omega) (by omega)]
    · rw [if_pos c2, if_pos c2]
/-- Normal's operations are short. -/
theorem jn_in {l : List St} (ho : ∀ s ∈ l, s.Ok) (h1 : bsum l ≤ 1000) (h2 : tsum l ≤ 1000) : (jn l).length ≤ 2000 ∧ ∀ o ∈ jn l, o.In := by
  have hn := nf_ok (ptsU_uw ho)
  have he := nf_eqv (uw l)
  have hb : baseU (pw (nfU (uw l))) = bsum l := by rw [he.1, base_uw]
  have ht : targU (pw (nfU (uw l))) = tsum l := by rw [he.targ, targ_uw]
  have hz := len_z hn
  rw [jn_eq ho]
  refine ⟨by rw [List.length_map]; omega, fun o hoo => ?_⟩
  obtain ⟨x, hx, rfl⟩ := List.mem_map.1 hoo
  have := hz.2 x hx
  cases x with
  | keep n => show ByteArray.size ⟨#[]⟩ ≤ _; decide
  | rem n => show ByteArray.size ⟨#[]⟩ ≤ _; decide
  | ins p =>
    have hl := enc_len p
    simp only [PS.z] at this
    show (mk (enc p)).size ≤ _
    rw [mk_size]
    omega
end Go.Proofs.Ytphbjbigjpfjfaa

/-
  Deltas that came in, opened.
-/
namespace Go.Proofs.Ytphbjbigjpfjfaa
open Go.ChangeShapes Go.WideShapes Go.ChangeAt Go.RowKit Go.PlainAid

theorem wf_bd {k : Int} (h : (Lit.int .i64 k).wf = true) : -9223372036854775808 ≤ k ∧ k ≤ 9223372036854775807 := by
  have e0 : IntKind.i64.min = -9223372036854775808 := by decide
  have e1 : IntKind.i64.max = 9223372036854775807 := by decide
  simpa [Lit.wf, e0, e1] using h

theorem wAll_mem {H : Type} {P : Program} {e : TypeId} : ∀ {l : List (DataW H)} {d : DataW H}, d ∈ l → ∀ n ∈ d.weights P e, n ∈ DataW.weightsAll P e l
  | x :: r, d, hd, n, hn => by
    simp only [DataW.weightsAll, List.mem_append]
    rcases List.mem_cons.1 hd with rfl | h
    · exact Or.inl hn
    · exact Or.inr (wAll_mem h n hn)

set_option maxRecDepth 20000 in
/-- One operation, out of its cells. -/
theorem open_dl {H : Type} {enc : TypeId × Value → H} {w : World} {spare : Nat → Bool} {held : Bool} {n : Nat} {cs : List Value} {x : DataW H × List MemPlace} (h : DataW.trod enc Try.prog w 0 spare held n 50 cs = some x) (hz : ∀ n ∈ x.1.weights Try.prog 50, n ≤ reachBytes) :
    ∃ o : OpD, cs = [.int .i64 o.k, .int .i64 o.n, .string o.t] ∧ o.In ∧ o.Ok := by
  obtain ⟨xs, m, _, hx, hl, _, hf⟩ := DataW.trod_struct Try.underlying50 h
  have h4 : Try.prog.cellsOf 50 = 3 := by kernel_rfl
  have c3 : Try.prog.cellsOf 3 = 1 := by kernel_rfl
  have c9 : Try.prog.cellsOf 9 = 1 := by kernel_rfl
  rw [h4] at hl
  have hxl : xs.length = 3 := by assumption
  match xs, hxl, cs, hl with
  | [y0, y1, y2], _, [v0, v1, v2], _ =>
    have g0 := hf 0 _ rfl
    have g1 := hf 1 _ rfl
    have g2 := hf 2 _ rfl
    simp [c3, c9] at g0 g1 g2
    have z2 : ∀ n ∈ y2.1.weights Try.prog 9, n ≤ reachBytes := fun n hn => hz n (by
      rw [hx]
      simp only [List.map]
      unfold DataW.weights
      rw [Try.underlying50]
      exact DataW.weights_mem_each (j := 2) (t := 9) (d := y2.1) rfl rfl n hn)
    obtain ⟨a0, e0, _, w0⟩ := DataW.trod_int Try.underlying3 g0
    obtain ⟨a1, e1, _, w1⟩ := DataW.trod_int Try.underlying3 g1
    obtain ⟨a2, e2, f2, w2⟩ := DataW.trod_string Try.underlying9 g2
    simp at e0 e1 e2
    have hb : a2.size ≤ 140737488355328 := by
      have := z2 a2.size (by rw [f2]; simp [DataW.weights])
      unfold reachBytes at this
      omega
    exact ⟨⟨a0, a1, a2⟩, by rw [e0, e1, e2], hb, ⟨(wf_bd w0).1, (wf_bd w0).2, (wf_bd w1).1, (wf_bd w1).2, w2⟩⟩

set_option maxRecDepth 20000 in
/-- A delta, out of its value. -/
theorem open_dlz {H : Type} {enc : TypeId × Value → H} {w : World} {spare : Nat → Bool} {held : Bool} {fuel : Nat} {ao : Option Addr} {len cap : Nat} {x : DataW H × List MemPlace}
    (h : DataW.trod enc Try.prog w 0 spare held fuel 22 (Value.slice ao len cap).cells.toList = some x) (hz : ∀ n ∈ x.1.weights Try.prog 22, n ≤ reachBytes) :
    ∃ l : List OpD, RdD w (.slice ao len cap) l ∧ l.length ≤ 4398046511104 ∧ ∀ o ∈ l, o.In ∧ o.Ok := by
  rcases Go.Deep.open_slice Try.underlying22 h with ⟨hcs, _⟩ | ⟨a, l, c, m, n, D, Pl, hcs, _, hl, hmx, hmm, hx, hall⟩
  · simp [Value.cells] at hcs
    obtain ⟨rfl, rfl, rfl⟩ := hcs
    exact ⟨[], RdD.nil w, Nat.zero_le _, by simp⟩
  · simp [Value.cells] at hcs
    obtain ⟨rfl, rfl, rfl⟩ := hcs
    have hlm : len ≤ m := by rw [hmm]; split <;> omega
    have h4 : Try.prog.cellsOf 50 = 3 := by kernel_rfl
    have hb : Try.prog.bytesOf 50 = 32 := by kernel_rfl
    have hln : len ≤ 4398046511104 := by
      have := hz ((len + (m - len)) * 32) (by rw [hx]; simp [DataW.weights, Try.underlying22, hb])
      unfold reachBytes at this
      omega
    have hzD : ∀ i, i < len → ∀ n ∈ (D i).weights Try.prog 50, n ≤ reachBytes := fun i hi n hn => hz n (by
      rw [hx]
      unfold DataW.weights
      rw [Try.underlying22]
      exact List.mem_cons_of_mem _ (List.mem_append_left _ (wAll_mem (List.mem_map.2 ⟨i, List.mem_range.2 hi, rfl⟩) n hn)))
    rw [h4] at hall
    obtain ⟨b, off, spot⟩ := a
    have hsp : ∀ i, i < len → spot = none := by
      intro i hi
      obtain ⟨cs', h1, h2⟩ := hall 0 (by omega)
      obtain ⟨o, rfl, ho⟩ := open_dl h2 (hzD 0 (by omega))
      obtain ⟨_, _, hcell⟩ := World.cells?_some h1
      have e0 := hcell 0 (by omega)
      simp at e0
      have := World.cell?_spot e0
      simpa [Addr.add] using this
    have each : ∀ i, i < len → ∃ o : OpD, (o.In ∧ o.Ok) ∧ spot = none ∧ b < w.heap.size ∧ w.cell? ⟨b, off + i * 3, none⟩ = some (.int .i64 o.k) ∧ w.cell? ⟨b, off + i * 3 + 1, none⟩ = some (.int .i64 o.n) ∧ w.cell? ⟨b, off + i * 3 + 2, none⟩ = some (.string o.t) := by
      intro i hi
      obtain ⟨cs', h1, h2⟩ := hall i (by omega)
      obtain ⟨o, rfl, ho⟩ := open_dl h2 (hzD i hi)
      obtain ⟨_, _, hcell⟩ := World.cells?_some h1
      have e0 := hcell 0 (by omega)
      have e1 := hcell 1 (by omega)
      have e2 := hcell 2 (by omega)
      rw [Go.Deep.add_add] at e0 e1 e2
      simp at e0 e1 e2
      obtain rfl := hsp i hi
      have hadd : ∀ k, (⟨b, off, none⟩ : Addr).add k = ⟨b, off + k, none⟩ := fun k => by unfold Addr.add; split <;> simp_all
      rw [hadd] at e0 e1 e2
      exact ⟨o, ho, rfl, World.block_lt_of_cell? w _ e0, e0, by rw [Nat.add_assoc]; exact e1, by rw [Nat.add_assoc]; exact e2⟩
    obtain ⟨f, hf⟩ := @Go.Deep.choose_lt OpD ⟨⟨0, 0, ⟨#[]⟩⟩⟩ _ _ each
    have hlen : ((List.range len).map f).length = len := by simp
    refine ⟨(List.range len).map f, ⟨some ⟨b, off, spot⟩, cap, by rw [hlen], ⟨by rw [hlen]; omega, fun h => by cases h⟩, fun i o ho => ?_⟩, by rw [hlen]; omega, fun o ho => ?_⟩
    · have hi : i < len := by
        have := (List.getElem?_eq_some_iff.1 ho).1
        simpa using this
      simp [hi] at ho
      subst ho
      obtain ⟨_, rfl, r⟩ := hf i hi
      exact ⟨b, off, rfl, r⟩
    · obtain ⟨i, hi, rfl⟩ := List.mem_map.1 ho
      exact (hf i (List.mem_range.1 hi)).1

/-! ### live -/

theorem lit_rdd (ds : List OpD) (u : World) : RdD (u.alloc (.cells (ocs ds).toArray 50)) (.slice (some ⟨u.heap.size, 0, none⟩) ds.length ds.length) ds := by
  refine ⟨_, _, rfl, ⟨Nat.le_refl _, fun h => by cases h⟩, fun i o ho => ⟨u.heap.size, 0, rfl, by simp, ?_⟩⟩
  obtain ⟨c0, c1, c2⟩ := ocs_at ds i o ho
  have g0 := many_new u (ocs ds) 50 _ _ c0
  have g1 := many_new u (ocs ds) 50 _ _ c1
  have g2 := many_new u (ocs ds) 50 _ _ c2
  rw [addr_add] at g0 g1 g2
  exact ⟨g0, by rw [Nat.add_assoc]; exact g1, by rw [Nat.add_assoc]; exact g2⟩
theorem grow1 (w : World) (o : Obj) : Below w.heap.size w (w.alloc o) := (Below.refl _ _).alloc (Nat.le_refl _) _

def liveD : List OpD := [⟨3, 1, ⟨#[]⟩⟩, ⟨2, 0, ⟨#[120]⟩⟩, ⟨3, 1, ⟨#[]⟩⟩, ⟨1, 1, ⟨#[]⟩⟩, ⟨1, 2, ⟨#[]⟩⟩]
def liveN : List OpD := [⟨2, 0, ⟨#[120]⟩⟩, ⟨3, 2, ⟨#[]⟩⟩, ⟨1, 3, ⟨#[]⟩⟩]
theorem live_chk : chk liveD = 0 := by decide
theorem live_st : stR liveD = [.rem 1, .ins ⟨#[120]⟩, .rem 1, .keep 1, .keep 2] := by rw [stR, if_pos live_chk]; rfl
theorem live_jn : jn (stR liveD) = liveN := by rw [live_st]; rfl
theorem live_ap : apR ⟨#[97, 98, 99, 100, 101]⟩ liveD = (⟨#[120, 99, 100, 101]⟩, 0) := by
  have h5 : cpl ⟨#[97, 98, 99, 100, 101]⟩ = 5 := by decide
  rw [apR, h5, if_neg (by decide), if_neg (fun h => h live_chk), live_st, if_neg (by decide)]
  rfl
theorem live_in : ∀ o ∈ liveD, o.In := by
  intro o ho
  simp only [liveD, List.mem_cons, List.not_mem_nil, or_false] at ho
  rcases ho with rfl | rfl | rfl | rfl | rfl <;> (show ByteArray.size _ ≤ _; decide)

end Go.Proofs.Ytphbjbigjpfjfaa

/-
  The contract of the reference's Len; what Apply's answer is.
-/
namespace Go.Proofs.Ytphbjbigjpfjfaa
open Go.ChangeShapes Go.WideShapes Go.ChangeAt Go.RowKit Go.PlainAid

theorem refLen_any (s : ByteArray) (w : World) (hs : s.size ≤ 1048576) :
    Calls Try.prog 33 #[.string s] w fun e w' => e = .returned (.int .i64 (cpl s)) ∧ Below w.heap.size w w' := by
  rcases valid_or_bad s with ⟨n, hv⟩ | ⟨k, hb⟩
  · rw [cpl_ok hv]
    have hc := refPoints_ok s n w hs hv
    go_enter Try.func33, Try.ntmps33
    go_wp2_with (go_at_call 37; refine hc.mono ?_; rintro e w1 ⟨v1, rfl, ho1, hb1⟩; obtain ⟨ao, cp, rfl⟩ := own_form ho1)
    go_ret
    exact ⟨rfl, hb1⟩
  · rw [cpl_bad hb]
    have hc := refPoints_bad s k w hs hb
    go_enter Try.func33, Try.ntmps33
    go_wp2_with (go_at_call 37; refine hc.mono ?_; rintro e w1 ⟨rfl, hb1⟩)
    go_ret
    exact ⟨rfl, hb1⟩

/-- A text of few code points is short. -/
theorem size_smallL {s : ByteArray} (h : 0 ≤ cpl s) (h2 : cpl s ≤ 1000) : s.size ≤ 4000 := by
  by_cases h0 : 0 < cpl s
  · have := size_cpl h0; omega
  · have hv := cpl_valid (s := s) h
    have e : (cpl s).toNat = 0 := by omega
    rw [e] at hv
    have := hv.2
    simp [pos] at this
    omega
theorem apR_cases {s : ByteArray} {ds : List OpD} (hi : ∀ o ∈ ds, o.In) :
    ((apR s ds).2 ≠ 0 ∧ (apR s ds).1 = ⟨#[]⟩) ∨ ((apR s ds).2 = 0 ∧ chk ds = 0 ∧ (bsum (stR ds) : Int) = cpl s ∧ cpl (apR s ds).1 = (tsum (stR ds) : Int) ∧ (apR s ds).1 = mk (enc (apRun (pts s) (stR ds))) ∧ pts (apR s ds).1 = apRun (pts s) (stR ds)) := by
  by_cases c0 : cpl s < 0
  · rw [apR, if_pos c0]; exact .inl ⟨by decide, rfl⟩
  · by_cases c1 : chk ds = 0
    · by_cases c2 : (bsum (stR ds) : Int) = cpl s
      · rw [apR, if_neg c0, if_neg (fun h => h c1), if_neg (fun h => h c2)]
        have hp := pts_len (t := s) (by omega)
        have h1 := apRun_ok _ _ (stR_ok hi) (pts_ok (t := s) (by omega))
        have h2 := cpl_enc h1
        have h3 := apRun_len (stR ds) (pts s) (by omega)
        exact .inr ⟨rfl, c1, c2, by simp only; rw [h2.1, h3], rfl, h2.2⟩
      · rw [apR, if_neg c0, if_neg (fun h => h c1), if_pos c2]; exact .inl ⟨by decide, rfl⟩
    · rw [apR, if_neg c0, if_pos c1]; exact .inl ⟨c1, rfl⟩
end Go.Proofs.Ytphbjbigjpfjfaa

/-
  Of DlH and PkRefW what is wanted where nothing is encoded. No walk.
-/
namespace Go.Proofs.Ytphbjbigjpfjfaa.pk
open Go.Proofs.Ytphbjbigjpfjfaa
open Go.ChangeShapes Go.WideShapes Go.ChangeAt Go.RowKit Go.PlainAid
theorem add_mk (a b : List UInt8) (W : World) (h : a.length + b.length ≤ 9223372036854775807) : (Op.stringOp .add (mk a) (mk b)).run Try.prog W = .ok (.string (mk (a ++ b))) W := by
  rw [run_string_add_sum W _ _ (by rw [mk_size, mk_size]; exact h)]
  congr 2
end Go.Proofs.Ytphbjbigjpfjfaa.pk
namespace Go.Proofs.Ytphbjbigjpfjfaa
open Go.RowKit Go.PlainAid

theorem many_new2 (wr : World) (X : Obj) (l : List Value) (e : Nat) : ∀ j u, l[j]? = some u → ((wr.alloc X).alloc (.cells l.toArray e)).cell? ((⟨wr.heap.size + 1, 0, none⟩ : Addr).add j) = some u := by
  have := many_new (wr.alloc X) l e
  rw [World.size_alloc] at this
  exact this
theorem st_op {o : OpD} {s : St} (h : stOf o = some s) : s.op = o := by
  obtain ⟨k, n, t⟩ := o
  simp only [stOf] at h
  split at h
  · rename_i h1
    have ht := empty_eq h1.2.2
    subst ht
    split at h
    · rename_i hk
      cases h
      simp only [St.op, hk]
      congr 1; omega
    · split at h
      · rename_i hk
        cases h
        simp only [St.op, hk]
        congr 1; omega
      · cases h
  · split at h
    · rename_i h1
      cases h
      simp only [St.op, h1.1, h1.2.1]
    · cases h
theorem stl_op : ∀ {ds : List OpD}, ds.any (fun o => (stOf o).isNone) = false → (stl ds).map St.op = ds
  | [], _ => rfl
  | o :: ds, h => by
    simp only [List.any_cons, Bool.or_eq_false_iff] at h
    cases hs : stOf o with
    | none => rw [hs] at h; simp at h
    | some s =>
      have e : stl (o :: ds) = s :: stl ds := by simp [stl, hs]
      rw [e, List.map_cons, st_op hs, stl_op h.2]
theorem chk_any {ds : List OpD} (h : chk ds = 0) : ds.any (fun o => (stOf o).isNone) = false ∧ ds.length ≤ 3000 := by
  rw [chk] at h
  split at h
  · omega
  · split at h
    · omega
    · rename_i h1 h2
      exact ⟨by simpa using h2, by omega⟩
theorem stR_op {ds : List OpD} (h : chk ds = 0) : (stR ds).map St.op = ds := by
  rw [chk_yes ds h]
  exact stl_op (chk_any h).1
end Go.Proofs.Ytphbjbigjpfjfaa

/-
  Code points as Go's own decoder sees them; RuneCountInString; the operations that ot makes.
-/
namespace Go.Proofs.Ytphbjbigjpfjfaa
open Go.ChangeShapes Go.WideShapes Go.ChangeAt Go.RowKit Go.PlainAid

theorem gb {s : ByteArray} {k : Nat} (h : k < s.size) : ((s.get! k).toNat : Int) = bt s k := by
  have := get_at s k h
  rw [Nat.add_zero] at this
  rw [this]
  exact get_bt s k h

/-- Go's decoder gives the code point that stands there. -/
theorem dec_at {s : ByteArray} {a n : Nat} (hok : szI (n : Int) ≠ 0) (h : At s a (ptB n)) : Utf8.decode s a = (n, (ptB n).length) := by
  have hb := szI_nonneg hok
  have hn : n ≤ 1114111 := by omega
  have hgap : ¬ (55296 ≤ n ∧ n ≤ 57343) := by omega
  by_cases c1 : n < 128
  · rw [ptB1 c1] at h ⊢
    have h0 := at_one.1 h
    have g0 := gb h0.1
    rw [h0.2, ofNat_toNat (by omega)] at g0
    have e0 : (s.get! (a + 0)).toNat = n := by rw [Nat.add_zero]; omega
    simp only [Utf8.decode, e0, List.length_cons, List.length_nil]
    rw [if_pos (by omega)]
  · by_cases c2 : n < 2048
    · rw [ptB2 (by omega) c2] at h ⊢
      have h0 := at_cons.1 h
      have h1 := at_one.1 h0.2
      have g0 := gb h0.1.1
      have g1 := gb h1.1
      rw [h0.1.2, ofNat_toNat (by omega)] at g0
      rw [h1.2, ofNat_toNat (by omega)] at g1
      have e0 : (s.get! (a + 0)).toNat = 192 + n / 64 := by rw [Nat.add_zero]; omega
      have e1 : (s.get! (a + 1)).toNat = 128 + n % 64 := by omega
      have s1 : a + 1 < s.size := h1.1
      simp only [Utf8.decode, e0, e1, List.length_cons, List.length_nil]
      rw [if_neg (by omega), if_pos (by simp; omega), if_pos (by omega)]
      congr 1; omega
    · by_cases c3 : n < 65536
      · rw [ptB3 (by omega) c3] at h ⊢
        have h0 := at_cons.1 h
        have h1 := at_cons.1 h0.2
        have h2 := at_one.1 h1.2
        have g0 := gb h0.1.1
        have g1 := gb h1.1.1
        have g2 := gb h2.1
        rw [h0.1.2, ofNat_toNat (by omega)] at g0
        rw [h1.1.2, ofNat_toNat (by omega)] at g1
        rw [h2.2, ofNat_toNat (by omega)] at g2
        have e0 : (s.get! (a + 0)).toNat = 224 + n / 4096 := by rw [Nat.add_zero]; omega
        have e1 : (s.get! (a + 1)).toNat = 128 + n / 64 % 64 := by omega
        have e2 : (s.get! (a + 2)).toNat = 128 + n % 64 := by rw [show a + 2 = a + 1 + 1 by omega]; omega
        have s1 : a + 1 < s.size := h1.1.1
        have s2 : a + 2 < s.size := by have := h2.1; omega
        simp only [Utf8.decode, e0, e1, e2, List.length_cons, List.length_nil]
        have ev : (224 + n / 4096) % 16 * 4096 + (128 + n / 64 % 64) % 64 * 64 + (128 + n % 64) % 64 = n := by omega
        rw [if_neg (by omega), if_neg (by simp; omega), if_pos (by simp; omega), ev, if_pos (by simp [Utf8.valid]; omega)]
      · rw [ptB4 (by omega)] at h ⊢
        have h0 := at_cons.1 h
        have h1 := at_cons.1 h0.2
        have h2 := at_cons.1 h1.2
        have h3 := at_one.1 h2.2
        have g0 := gb h0.1.1
        have g1 := gb h1.1.1
        have g2 := gb h2.1.1
        have g3 := gb h3.1
        rw [h0.1.2, ofNat_toNat (by omega)] at g0
        rw [h1.1.2, ofNat_toNat (by omega)] at g1
        rw [h2.1.2, ofNat_toNat (by omega)] at g2
        rw [h3.2, ofNat_toNat (by omega)] at g3
        have e0 : (s.get! (a + 0)).toNat = 240 + n / 262144 := by rw [Nat.add_zero]; omega
        have e1 : (s.get! (a + 1)).toNat = 128 + n / 4096 % 64 := by omega
        have e2 : (s.get! (a + 2)).toNat = 128 + n / 64 % 64 := by rw [show a + 2 = a + 1 + 1 by omega]; omega
        have e3 : (s.get! (a + 3)).toNat = 128 + n % 64 := by rw [show a + 3 = a + 1 + 1 + 1 by omega]; omega
        have s1 : a + 1 < s.size := h1.1.1
        have s2 : a + 2 < s.size := by have := h2.1.1; omega
        have s3 : a + 3 < s.size := by have := h3.1; omega
        simp only [Utf8.decode, e0, e1, e2, e3, List.length_cons, List.length_nil]
        have ev : (240 + n / 262144) % 8 * 262144 + (128 + n / 4096 % 64) % 64 * 4096 + (128 + n / 64 % 64) % 64 * 64 + (128 + n % 64) % 64 = n := by omega
        rw [if_neg (by omega), if_neg (by simp; omega), if_neg (by simp; omega), if_pos (by simp; omega), ev, if_pos (by simp [Utf8.valid]; omega)]

theorem enc_rune {z : Int} (h : szI z ≠ 0) : Utf8.encode z = mk (ptB z.toNat) := by
  have hb := szI_nonneg h
  have hv : Utf8.valid z = true := by simp [Utf8.valid]; omega
  unfold Utf8.encode ptB
  rw [hv]
  simp only [if_true]
  split
  · rfl
  · split
    · rfl
    · split <;> rfl

/-- Code point number k of a valid text, as Go's decoder sees it. -/
theorem dec_pos {s : ByteArray} {n k : Nat} (hv : Valid s n) (hk : k < n) : ((Utf8.decode s (pos s k)).1 : Int) = pt s k ∧ pos s k + (Utf8.decode s (pos s k)).2 = pos s (k + 1) ∧ szI (pt s k) ≠ 0 := by
  have h1 := (hv.1 k hk).2
  obtain ⟨m, g1, g2, g3, g4⟩ := nx_of h1
  have hd := dec_at g2 g3
  have hp := pos_succ h1
  rw [hd]
  refine ⟨?_, ?_, ?_⟩
  · rw [pt, g1]
  · simp only; omega
  · rw [pt, g1]; exact g2

set_option maxRecDepth 20000 in
set_option maxHeartbeats 1000000 in
theorem runes_any (s : ByteArray) (w : World) (hs : s.size ≤ 1048576) (h : 0 ≤ cpl s) :
    Calls Try.prog 52 #[.string s] w fun e w' => e = .returned (.int .i64 (cpl s)) ∧ Below w.heap.size w w' := by
  have hv := cpl_valid h
  obtain ⟨n, hn⟩ := Int.eq_ofNat_of_zero_le h
  rw [hn, Int.toNat_natCast] at hv
  rw [hn]
  have hnp := pos_le hv.1 n (Nat.le_refl _)
  have hBi : ∀ p, Below w.heap.size w (w.iter s p) := fun p => (Below.refl _ w).alloc (Nat.le_refl _) _
  clear hn h
  go_enter Try.func52, Try.ntmps52
  go_wp2
  go_loopw [2] (fun c w' => ∃ k : Nat, k ≤ n ∧ w' = w.iter s (pos s k) ∧ c = .int .i64 (k : Int)) (fun c _ => n - (intOf c).toNat)
  case atStart => exact ⟨0, by omega, rfl, rfl⟩
  case round =>
    obtain ⟨k, hk, rfl, rfl⟩ := hrel
    by_cases hlt : k < n
    · have h1 := (hv.1 k hlt).1
      have hd := dec_pos hv hlt
      have hnx : ∀ ty, (Instr.next (.pointer (some ⟨w.heap.size, 0, none⟩)) true ty).run Try.prog (w.iter s (pos s k)) = _ := fun ty => run_next_any w s (pos s k) ty h1
      rw [hd.2.1] at hnx
      clear hd
      go_wp2
      go_roundw
      case rel => exact ⟨k + 1, by omega, rfl, by go_num⟩
      case measure => simp [intOf]; omega
    · obtain rfl : k = n := by omega
      have hne : ¬ pos s k < s.size := by rw [hv.2]; omega
      have hnx : ∀ ty, (Instr.next (.pointer (some ⟨w.heap.size, 0, none⟩)) true ty).run Try.prog (w.iter s (pos s k)) = _ := fun ty => run_next_end w s (pos s k) ty hne
      clear hv hnp
      go_wp2
      go_ret
      exact ⟨rfl, hBi _⟩

set_option maxHeartbeats 400000 in
theorem otKeep_any (n : Int) (w : World) : Calls Try.prog 51 #[.int .i64 n] w fun e w' => e = .returned (.agg #[.int .i64 1, .int .i64 n, .string ⟨#[]⟩]) ∧ Below w.heap.size w w' := by
  go_enter Try.func51, Try.ntmps51
  go_wp2
  refine bodyPost_ret (results_cell_row rfl _ _ w.heap.size 50 _ (0, 0) _ rfl (heap_alloc_new w _) Try.underlying50 rfl Try.sizeOp) rfl ?_
  exact ⟨rfl, (Below.refl _ _).alloc (Nat.le_refl _) _⟩
set_option maxHeartbeats 400000 in
theorem otRem_any (n : Int) (w : World) : Calls Try.prog 55 #[.int .i64 n] w fun e w' => e = .returned (.agg #[.int .i64 3, .int .i64 n, .string ⟨#[]⟩]) ∧ Below w.heap.size w w' := by
  go_enter Try.func55, Try.ntmps55
  go_wp2
  refine bodyPost_ret (results_cell_row rfl _ _ w.heap.size 50 _ (0, 0) _ rfl (heap_alloc_new w _) Try.underlying50 rfl Try.sizeOp) rfl ?_
  exact ⟨rfl, (Below.refl _ _).alloc (Nat.le_refl _) _⟩
set_option maxHeartbeats 400000 in
theorem otIns_any (t : ByteArray) (w : World) : Calls Try.prog 50 #[.string t] w fun e w' => e = .returned (.agg #[.int .i64 2, .int .i64 0, .string t]) ∧ Below w.heap.size w w' := by
  go_enter Try.func50, Try.ntmps50
  go_wp2
  refine bodyPost_ret (results_cell_row rfl _ _ w.heap.size 50 _ (0, 0) _ rfl (heap_alloc_new w _) Try.underlying50 rfl Try.sizeOp) rfl ?_
  exact ⟨rfl, (Below.refl _ _).alloc (Nat.le_refl _) _⟩
end Go.Proofs.Ytphbjbigjpfjfaa

/-
  slices.Repeat of one operation.
-/
namespace Go.Proofs.Ytphbjbigjpfjfaa
open Go.ChangeShapes Go.WideShapes Go.ChangeAt Go.RowKit Go.PlainAid

theorem Try.mixed : Try.prog.follows .mixedOrders = true := by kernel_rfl
theorem region_tail {P : Program} {id : Nat} {Q : Exit → Act → World → Prop} {a : Act} {w : World} {l : List Oper} (n : Nat) (hm : P.follows .mixedOrders = true) (hB : Region.lexTailB .any l.toArray n = true)
    (h : wpStill P l.toArray w.drew (fun a' => wpList P l.toArray Q (l.drop n) a' w.drew) (l.take n) a) : (Code.region id l.toArray true).wp P Q a w :=
  wp_region_still_tail n hm hB h

theorem copy3 (w : World) (ty : TypeId) (g o dLen dCap : Nat) (a : Addr) (sLen sCap : Nat) (cur : Array Value) (cs : List Value)
    (hg : w.heap[g]? = some (.cells cur 50 (0, 0))) (hn : cs.length = Nat.min sLen dLen * 3)
    (hsrc : ∀ j v, cs[j]? = some v → w.cell? (a.add j) = some v) (hfit : o + cs.length ≤ cur.size) (h1 : ∀ v ∈ cs, v.oneCell' = true) :
    (Builtin.copy_ #[22, 22] ty #[.slice (some ⟨g, o, none⟩) dLen dCap, .slice (some a) sLen sCap]).run Try.prog w =
      .ok (goInt (Nat.min sLen dLen)) (w.setRow g (cur.toList.take o ++ cs ++ cur.toList.drop (o + cs.length)).toArray) := by
  obtain ⟨i0, hi, hz0, hz1, hz2⟩ := info_parts Try.infoOp
  have hl := run_loadCells_list (P := Try.prog) w a cs hsrc
  have hst := run_storeCells_at Try.prog g o 50 cs 0 cur w hg (by simpa using hfit) h1
  simp [Builtin.copy_, run_underlying Try.underlying22, Builtin.lenOf, Builtin.firstCells, sizeOf, typeInfo, hi, hz1, ← hn, hl, hst]
theorem wpList_copy3 {ops : Array Oper} {rest : List Oper} {o : Oper} {a : Act} {Q : Exit → Act → World → Prop} (w : World) (hgd : o.guard = none) (d s : Operand)
    (ho : o.op = .call { callee := .builtin .copy, args := #[d, s], argTypes := #[22, 22] })
    (g off dLen dCap : Nat) (ad : Addr) (sLen sCap n : Nat) (hd : a.eval d = .slice (some ⟨g, off, none⟩) dLen dCap) (hs : a.eval s = .slice (some ad) sLen sCap) (hmin : Nat.min sLen dLen = n)
    (cur : Array Value) (hg : w.heap[g]? = some (.cells cur 50 (0, 0))) (cs : List Value) (hn : cs.length = n * 3)
    (hsrc : ∀ j v, cs[j]? = some v → w.cell? (ad.add j) = some v) (hfit : off + cs.length ≤ cur.size) (h1 : ∀ v ∈ cs, v.oneCell' = true)
    (h : wpList Try.prog ops Q rest (a.put o.dst (goInt n)) (w.setRow g (cur.toList.take off ++ cs ++ cur.toList.drop (off + cs.length)).toArray)) : wpList Try.prog ops Q (o :: rest) a w := by
  subst hmin
  refine wpList_plain hgd fun K hK => ?_
  have hrun := copy3 w o.type g off dLen dCap ad sLen sCap cur cs hg hn hsrc hfit h1
  unfold Oper.wp
  simp [execOp, ho, resolve, invoke, builtin, hd, hs, hrun, Result.andThen]
  exact hK _ _ (by simpa using h)

theorem u64_and (x : Nat) (h : x < 4294967296) : bits .and .u64 (x : Int) 4294967295 = (x : Int) := by
  have hw : ∀ n : Int, 0 ≤ n → n < 2 ^ 62 → IntKind.u64.wrap n = n := fun n h0 h1 => by rw [IntKind.wrap_u64]; omega
  have := bits_mask .u64 62 (by decide) hw 32 (by decide) (x : Int) (by omega) (by omega)
  rw [show (2 : Int) ^ 32 - 1 = 4294967295 by decide] at this
  rw [this]
  omega

set_option maxRecDepth 20000 in
set_option maxHeartbeats 1000000 in
theorem mul64_one (N : Nat) (w : World) (hN : N ≤ 1000000) :
    Calls Try.prog 74 #[.int .u64 1, .int .u64 (N : Int)] w fun e w' => e = .returned (.tuple #[.int .u64 0, .int .u64 (N : Int)]) ∧ w = w' := by
  have a1 := u64_and N (by omega)
  have a2 : bits .and .u64 1 4294967295 = 1 := u64_and 1 (by decide)
  have a3 : bits .and .u64 0 4294967295 = 0 := u64_and 0 (by decide)
  have hN' : (N : Int) ≤ 1000000 := by omega
  have d1 : (N : Int) / 4294967296 = 0 := by omega
  go_enter Try.func74, Try.ntmps74
  go_wp2
  go_ret2
  exact ⟨rfl, rfl⟩
end Go.Proofs.Ytphbjbigjpfjfaa

/-
  slices.Repeat of one operation.
-/
namespace Go.Proofs.Ytphbjbigjpfjfaa
open Go.ChangeShapes Go.WideShapes Go.ChangeAt Go.RowKit Go.PlainAid

set_option maxRecDepth 20000 in
set_option maxHeartbeats 1000000 in
theorem mul_one' (N : Nat) (w : World) (hN : N ≤ 1000000) :
    Calls Try.prog 72 #[.int .u64 1, .int .u64 (N : Int)] w fun e w' => e = .returned (.tuple #[.int .u64 0, .int .u64 (N : Int)]) ∧ w = w' := by
  have hC := mul64_one N w hN
  go_enter Try.func72, Try.ntmps72
  go_wp2_with (go_at_call 74; refine hC.mono ?_; rintro e w1 ⟨rfl, rfl⟩)
  go_ret2
  exact ⟨rfl, rfl⟩

theorem make_op (n : Nat) (hn : n ≤ 1000000) : ∃ Z : Array Value, Z.size = n * 3 ∧ ∀ W : World, (Instr.makeSlice 22 (.int .i64 (n : Int)) (.int .i64 (n : Int))).run Try.prog W = .ok (.slice (some ⟨W.heap.size, 0, none⟩) n n) (W.alloc (.cells Z 50)) := by
  obtain ⟨i0, hi, hz0, hz1, hz2⟩ := info_parts Try.infoOp
  refine ⟨madeCells (Value.agg #[.int .i64 0, .int .i64 0, .string ⟨#[]⟩]).cells (n * i0.size), ?_, fun W => ?_⟩
  rotate_left
  · have h := run_make (P := Try.prog) W 22 50 i0 _ Try.underlying22 hi hz0 .i64 .i64 (n : Int) (n : Int) (by omega) (by omega) (by rw [hz2]; omega) (by omega)
    simpa using h
  · simp [size_madeCells, hz1]

theorem sizeOp (W : World) : (sizeOf 50).run Try.prog W = .ok 3 W := by
  obtain ⟨i0, hi, hz0, hz1, hz2⟩ := info_parts Try.infoOp
  simp [sizeOf, typeInfo, hi, hz1]
theorem addr3 (b o j : Nat) : (⟨b, o, none⟩ : Addr).add j = ⟨b, o + j, none⟩ := by unfold Addr.add; split <;> simp_all
set_option maxRecDepth 20000 in
theorem sliceO_head (b o len cp n : Nat) (hn : n ≤ len) (hc : len ≤ cp) (h0 : 0 < n) (W : World) :
    (Instr.slice 22 (.slice (some ⟨b, o, none⟩) len cp) none (some (.int .i64 (n : Int))) none).run Try.prog W = .ok (.slice (some ⟨b, o, none⟩) n cp) W := by
  rw [run_slice_h (P := Try.prog) W 22 (some ⟨b, o, none⟩) len cp Try.underlying22 .i64 (n : Int) (by omega) (by omega)]
  have e : Try.prog.elem 22 = 50 := by kernel_rfl
  rw [e, sizeOp]
  simp only [Result.andThen, sliced, Int.toNat_natCast, Option.map_some, Nat.zero_mul, addr3]
  rw [if_neg (by omega)]
  simp
set_option maxRecDepth 20000 in
theorem sliceO_tail (b o len cp n : Nat) (hn : n ≤ len) (h0 : n < cp) (W : World) :
    (Instr.slice 22 (.slice (some ⟨b, o, none⟩) len cp) (some (.int .i64 (n : Int))) none none).run Try.prog W = .ok (.slice (some ⟨b, o + n * 3, none⟩) (len - n) (cp - n)) W := by
  rw [run_slice_l (P := Try.prog) W 22 (some ⟨b, o, none⟩) len cp Try.underlying22 .i64 (n : Int) (by omega) (by omega)]
  have e : Try.prog.elem 22 = 50 := by kernel_rfl
  rw [e, sizeOp]
  simp only [Result.andThen, sliced, Int.toNat_natCast, Option.map_some, addr3]
  rw [if_neg (by omega)]

theorem ocs_rep_take (o : OpD) (k n : Nat) (h : n ≤ k) : (ocs (List.replicate k o)).take (n * 3) = ocs (List.replicate n o) := by
  have e : List.replicate k o = List.replicate n o ++ List.replicate (k - n) o := by rw [List.replicate_append_replicate]; congr 1; omega
  rw [e, ocs_append, List.take_left' (by rw [ocs_length, List.length_replicate])]
theorem ocs_cell (l : List OpD) : ∀ v ∈ ocs l, v.oneCell' = true := by
  intro v hv
  simp only [ocs, List.mem_flatten, List.mem_map] at hv
  obtain ⟨x, ⟨o, _, rfl⟩, hx⟩ := hv
  simp only [List.mem_cons, List.not_mem_nil, or_false] at hx
  rcases hx with rfl | rfl | rfl <;> rfl

/-- So much of the row has been written. -/
structure Rep (w W : World) (o : OpD) (N k : Nat) (cur : Array Value) : Prop where
  blk : W.heap[w.heap.size]? = some (.cells cur 50 (0, 0))
  siz : cur.size = N * 3
  one : 0 < k
  le : k ≤ N
  cts : cur.toList.take (k * 3) = ocs (List.replicate k o)
  bel : Below w.heap.size w W

theorem Rep.step {w W : World} {o : OpD} {N k n : Nat} {cur : Array Value} (h : Rep w W o N k cur) (hn : n ≤ N - k) :
    Rep w (W.setRow w.heap.size (cur.toList.take (k * 3) ++ ocs (List.replicate n o) ++ cur.toList.drop (k * 3 + (ocs (List.replicate n o)).length)).toArray) o N (k + n) (cur.toList.take (k * 3) ++ ocs (List.replicate n o) ++ cur.toList.drop (k * 3 + (ocs (List.replicate n o)).length)).toArray := by
  have hl := ocs_length (List.replicate n o)
  rw [List.length_replicate] at hl
  have hs := h.siz
  have hle := h.le
  have ho := h.one
  refine ⟨setRow_heap _ _ cur _ 50 (0, 0) h.blk, ?_, by omega, by omega, ?_, h.bel.trans ⟨rfl, rfl, rfl, by simp, fun k hk => setRow_other _ _ _ _ (by omega)⟩⟩
  · simp only [List.size_toArray, List.length_append, List.length_take, List.length_drop, Array.length_toList, hl]
    omega
  · have hr : ocs (List.replicate (k + n) o) = ocs (List.replicate k o) ++ ocs (List.replicate n o) := by rw [← ocs_append, List.replicate_append_replicate]
    have hk := ocs_length (List.replicate k o)
    rw [List.length_replicate] at hk
    rw [hr, h.cts]
    refine List.take_left' ?_
    rw [List.length_append, hk, hl]
    omega
theorem Rep.src {w W : World} {o : OpD} {N k n : Nat} {cur : Array Value} (h : Rep w W o N k cur) (hn : n ≤ k) (j : Nat) (v : Value) (hv : (ocs (List.replicate n o))[j]? = some v) : W.cell? ((⟨w.heap.size, 0, none⟩ : Addr).add j) = some v := by
  rw [← ocs_rep_take o k n hn, ← h.cts, List.take_take] at hv
  have hj : j < Nat.min (n * 3) (k * 3) := by
    rcases Nat.lt_or_ge j (Nat.min (n * 3) (k * 3)) with h1 | h1
    · exact h1
    · rw [List.getElem?_eq_none (by rw [List.length_take]; exact Nat.le_trans (Nat.min_le_left _ _) h1)] at hv; cases hv
  rw [List.getElem?_take_of_lt hj] at hv
  rw [addr3, Nat.zero_add]
  have hv' : cur[j]? = some v := by rw [← Array.getElem?_toList]; exact hv
  unfold World.cell?
  simp [h.blk, hv']

set_option maxRecDepth 20000 in
set_option maxHeartbeats 1500000 in
theorem repeat_any (a : Addr) (c : Nat) (o : OpD) (N : Nat) (w : World) (h0 : 0 < N) (hN : N ≤ 1000000) (hsrc : ∀ j v, (ocs [o])[j]? = some v → w.cell? (a.add j) = some v) (hla : a.block < w.heap.size) :
    Calls Try.prog 71 #[.slice (some a) 1 c, .int .i64 (N : Int)] w fun e w' => ∃ u, e = .returned u ∧ w'.ownsRow w.heap.size 50 3 u N (ocs (List.replicate N o)) ∧ Below w.heap.size w w' := by
  have hC := mul_one' N w hN
  obtain ⟨Z, hZ, hmk⟩ := make_op N hN
  have hbZ : Below w.heap.size w (w.alloc (.cells Z 50)) := (Below.refl _ w).alloc (Nat.le_refl _) _
  have hmin : Nat.min 1 N = 1 := Nat.min_eq_left (by omega)
  have hcp := copy3 (w.alloc (.cells Z 50)) 3 w.heap.size 0 N N a 1 c Z (ocs [o]) (heap_alloc_new w _) (by rw [ocs_length, hmin]; rfl) (fun j v hv => by
      have h1 := hsrc j v hv
      unfold World.cell? at h1 ⊢
      have e : (a.add j).block = a.block := by unfold Addr.add; split <;> rfl
      rw [e] at h1 ⊢
      rw [Below.heap_alloc w _ a.block hla]
      exact h1) (by rw [ocs_length, hZ]; simp; omega) (ocs_cell _)
  rw [hmin] at hcp
  have hrep : Rep w ((w.alloc (.cells Z 50)).setRow w.heap.size (Z.toList.take 0 ++ ocs [o] ++ Z.toList.drop (0 + (ocs [o]).length)).toArray) o N 1 (Z.toList.take 0 ++ ocs [o] ++ Z.toList.drop (0 + (ocs [o]).length)).toArray := by
    refine ⟨setRow_heap _ _ Z _ 50 (0, 0) (heap_alloc_new w _), ?_, by omega, by omega, ?_, hbZ.trans ⟨rfl, rfl, rfl, by simp, fun k hk => setRow_other _ _ _ _ (by omega)⟩⟩
    · simp only [List.size_toArray, List.length_append, List.length_take, List.length_drop, Array.length_toList, ocs_length, List.length_cons, List.length_nil]
      omega
    · simp [ocs]
  generalize ((w.alloc (.cells Z 50)).setRow w.heap.size (Z.toList.take 0 ++ ocs [o] ++ Z.toList.drop (0 + (ocs [o]).length)).toArray) = W1 at hcp hrep
  generalize (Z.toList.take 0 ++ ocs [o] ++ Z.toList.drop (0 + (ocs [o]).length)).toArray = Y at hrep
  go_enter Try.func71, Try.ntmps71
  go_wp2_with (go_at_call 72; refine hC.mono ?_; rintro e w1 ⟨rfl, rfl⟩)
  clear hC hcp hmk hbZ hsrc
  go_loopw [8] (fun b wr => ∃ (k : Nat) (cur : Array Value), b = .int .i64 (k : Int) ∧ Rep w wr o N k cur) (fun b _ => N - (intOf b).toNat)
  case atStart => exact ⟨1, _, rfl, hrep⟩
  case round =>
    obtain ⟨k, cur, rfl, hr⟩ := hrel
    have hle := hr.le
    have hone := hr.one
    by_cases c : k < N
    · have c' : (k : Int) < (N : Int) := by omega
      go_wp2_with fail
      have hs1 := sliceO_tail w.heap.size 0 N N k hle c
      have hs2 := sliceO_head w.heap.size 0 N N k hle (Nat.le_refl _) hone
      have hmn : Nat.min k (N - k) ≤ k := Nat.min_le_left _ _
      have hmm : Nat.min k (N - k) ≤ N - k := Nat.min_le_right _ _
      have hm0 : 0 < Nat.min k (N - k) := Nat.lt_min.mpr ⟨hone, by omega⟩
      obtain ⟨n, hn⟩ : ∃ n, n = Nat.min k (N - k) := ⟨_, rfl⟩
      rw [← hn] at hmn hmm hm0
      have hcp := copy3 wr.drew 3 w.heap.size (k * 3) (N - k) (N - k) ⟨w.heap.size, 0, none⟩ k N cur (ocs (List.replicate n o)) hr.blk (by rw [ocs_length, List.length_replicate, hn]) (fun j v hv => hr.src hmn j v hv) (by rw [ocs_length, List.length_replicate, hr.siz]; omega) (ocs_cell _)
      rw [← hn] at hcp
      simp only [Nat.zero_add] at hs1
      have hst := Rep.step (W := wr.drew) ⟨hr.blk, hr.siz, hr.one, hr.le, hr.cts, hr.bel.drew⟩ hmm
      generalize wr.drew.setRow w.heap.size (cur.toList.take (k * 3) ++ ocs (List.replicate n o) ++ cur.toList.drop (k * 3 + (ocs (List.replicate n o)).length)).toArray = W2 at *
      clear hn
      go_region
      clear hcp hs1 hs2
      go_wp2_with fail
      refine ⟨⟨k + n, _, ?_, hst⟩, ?_⟩
      · rw [show (((k + n : Nat) : Int)) = (k : Int) + (n : Int) by omega]
      · simp only [intOf]; omega
    · have c' : ¬ ((k : Int) < (N : Int)) := by omega
      go_wp2_with fail
      have e : k = N := by omega
      subst e
      go_ret
      refine ⟨_, rfl, ⟨by rw [ocs_length, List.length_replicate], .inr ⟨w.heap.size, k, cur, rfl, Nat.le_refl _, hr.blk, Nat.le_refl _, by unfold maxLen; omega, hr.siz, hr.cts⟩⟩, hr.bel⟩
end Go.Proofs.Ytphbjbigjpfjfaa

/-
  The contract of unitsOf.
-/
namespace Go.Proofs.Ytphbjbigjpfjfaa
open Go.ChangeShapes Go.WideShapes Go.ChangeAt Go.RowKit Go.PlainAid

/-- The operation of one code point. -/
def uop : U → OpD
  | .K => ⟨1, 1, ⟨#[]⟩⟩
  | .R => ⟨3, 1, ⟨#[]⟩⟩
  | .I z => ⟨2, 0, mk (ptB z.toNat)⟩
def iop (z : Int) : OpD := uop (.I z)

/-- unitsOf on its way: k code points of s have been seen. -/
structure Uo (w W : World) (s : ByteArray) (k : Nat) (l : Value) : Prop where
  own : W.ownsRow (w.heap.size + 2) 50 3 l k (ocs ((ptL s k).map iop))
  it : W.heap[w.heap.size + 1]? = some (.stringIter s (pos s k))
  bel : Below w.heap.size w W
  le : w.heap.size + 2 ≤ W.heap.size

/-- As that, when the next code point has been taken. -/
structure Un (w W : World) (s : ByteArray) (k : Nat) (l : Value) : Prop where
  own : W.ownsRow (w.heap.size + 2) 50 3 l k (ocs ((ptL s k).map iop))
  it : W.heap[w.heap.size + 1]? = some (.stringIter s (pos s (k + 1)))
  bel : Below w.heap.size w W
  le : w.heap.size + 2 ≤ W.heap.size

theorem Uo.next {w W : World} {s : ByteArray} {k : Nat} {l : Value} (h : Uo w W s k l) : Un w (W.iterAt (w.heap.size + 1) s (pos s (k + 1))) s k l :=
  ⟨ownsRow_iterAt h.own (by omega) _ _, Lib.iterAt_heap _ _ _ _ _ h.it, h.bel.trans ⟨rfl, rfl, rfl, by simp [World.iterAt], fun j hj => Lib.iterAt_other _ _ _ _ _ (by omega)⟩, by have := h.le; simp [World.iterAt]; omega⟩
theorem Un.below {w W W' : World} {s : ByteArray} {k : Nat} {l : Value} (h : Un w W s k l) (hb : Below W.heap.size W W') : Un w W' s k l :=
  ⟨own_belowG h.own hb, (hb.block _ (heap_lt h.it)).trans h.it, h.bel.trans (hb.mono (by have := h.le; omega)), Nat.le_trans h.le hb.size⟩
theorem un_app {w W W' : World} {s : ByteArray} {k : Nat} {l l' : Value} {x : Obj} (h : Un w W s k l)
    (ho : W'.ownsRow (w.heap.size + 2) 50 3 l' (k + 1) (ocs ((ptL s k).map iop) ++ [Value.int .i64 2, .int .i64 0, .string (mk (ptB (pt s k).toNat))])) (hg : (W.alloc x).grownBy W' l.ownBlock) : Uo w W' s (k + 1) l' := by
  have hle := h.le
  have hs := hg.size
  rw [World.size_alloc] at hs
  have hit : (W.alloc x).heap[w.heap.size + 1]? = some (.stringIter s (pos s (k + 1))) := (Below.heap_alloc W x _ (heap_lt h.it)).trans h.it
  refine ⟨?_, ?_, ?_, by omega⟩
  · have := own_op (L := (ptL s k).map iop) (o := iop (pt s k)) ho (by rw [List.length_map, ptL_length])
    rw [ptL_succ, List.map_append]
    rw [List.length_append, List.length_map, ptL_length] at this
    exact this
  · rw [hg.block _ (heap_lt hit) (fun e => by have := (h.own.lt _ e.symm).1; omega)]
    exact hit
  · exact (h.bel.alloc (by omega) x).grown hg (by simp; omega) (fun j hj => by have := (h.own.lt j hj).1; omega)

theorem src_new (W : World) (o : OpD) : ∀ j v, (ocs [o])[j]? = some v → (W.alloc (.cells #[.int .i64 o.k, .int .i64 o.n, .string o.t] 50)).cell? ((⟨W.heap.size, 0, none⟩ : Addr).add j) = some v := by
  intro j v h
  rw [ocs_one] at h
  exact many_new W _ 50 j v h

theorem ocs_rep (n : Nat) (u : U) : (List.replicate n u).map uop = List.replicate n (uop u) := by simp

set_option maxRecDepth 20000 in
set_option maxHeartbeats 1500000 in
theorem unitsOf_num (k : Int) (hk : k ≠ 2) (n : Nat) (w : World) (h0 : 1 ≤ n) (hn : n ≤ 1000) :
    Calls Try.prog 63 #[.agg #[.int .i64 k, .int .i64 (n : Int), .string ⟨#[]⟩]] w fun e w' => ∃ u, e = .returned u ∧ w'.ownsRow w.heap.size 50 3 u n (ocs (List.replicate n ⟨k, 1, ⟨#[]⟩⟩)) ∧ Below w.heap.size w w' := by
  have hk' : (k != 2) = true := by simpa using hk
  have hB : Below w.heap.size w ((w.alloc (.cells #[.int .i64 k, .int .i64 (n : Int), .string ⟨#[]⟩] 50)).alloc (.cells #[.int .i64 k, .int .i64 1, .string ⟨#[]⟩] 50)) := ((Below.refl _ w).alloc (Nat.le_refl _) _).alloc (by simp) _
  have hsz : ((w.alloc (.cells #[.int .i64 k, .int .i64 (n : Int), .string ⟨#[]⟩] 50)).alloc (.cells #[.int .i64 k, .int .i64 1, .string ⟨#[]⟩] 50)).heap.size = w.heap.size + 2 := by simp
  have hC := repeat_any ⟨(w.alloc (.cells #[.int .i64 k, .int .i64 (n : Int), .string ⟨#[]⟩] 50)).heap.size, 0, none⟩ 1 ⟨k, 1, ⟨#[]⟩⟩ n ((w.alloc (.cells #[.int .i64 k, .int .i64 (n : Int), .string ⟨#[]⟩] 50)).alloc (.cells #[.int .i64 k, .int .i64 1, .string ⟨#[]⟩] 50)) h0 (by omega) (src_new _ ⟨k, 1, ⟨#[]⟩⟩) (by simp)
  rw [World.size_alloc] at hC
  go_enter Try.func63, Try.ntmps63
  go_wp2_with (go_at_call 71; refine hC.mono ?_; rintro e w1 ⟨u, rfl, ho1, hb1⟩)
  go_ret
  exact ⟨u, rfl, own_lower ho1 (by omega), hB.trans (hb1.mono (by omega))⟩

def lenV : Value → Nat
  | .slice _ n _ => n
  | _ => 0

set_option maxRecDepth 20000 in
set_option maxHeartbeats 1500000 in
theorem unitsOf_ins (s : ByteArray) (w : World) (h0 : 0 < cpl s) (hs : s.size ≤ 1048576) :
    Calls Try.prog 63 #[.agg #[.int .i64 2, .int .i64 0, .string s]] w fun e w' => ∃ u, e = .returned u ∧ w'.ownsRow w.heap.size 50 3 u (cpl s).toNat (ocs ((pts s).map iop)) ∧ Below w.heap.size w w' := by
  obtain ⟨i0, hin, hz0, hz1, hz2⟩ := info_parts Try.infoOp
  have hv := cpl_valid (s := s) (by omega)
  unfold pts
  generalize (cpl s).toNat = n at *
  have hnp := pos_le hv.1 n (Nat.le_refl _)
  clear h0
  have hU : Uo w ((w.alloc (.cells #[.int .i64 2, .int .i64 0, .string s] 50)).iter s 0) s 0 (.slice none 0 0) :=
    ⟨World.ownsRow_nil _ _ _ _, by have := World.iter_heap (w.alloc (.cells #[.int .i64 2, .int .i64 0, .string s] 50)) s 0; rw [World.size_alloc] at this; exact this, ((Below.refl _ w).alloc (Nat.le_refl _) _).alloc (by simp) _, by show _ ≤ (World.alloc _ _).heap.size; simp⟩
  go_enter Try.func63, Try.ntmps63
  go_wp2_with fail
  go_loopw [3, 5] (fun l _ wr => ∃ k : Nat, k ≤ n ∧ Uo w wr s k l) (fun l _ _ => n - lenV l)
  case atStart => exact ⟨0, by omega, hU⟩
  case round =>
    obtain ⟨k, hk, hu⟩ := hrel
    clear hU
    obtain ⟨ao, cp, rfl⟩ := own_form hu.own
    by_cases hlt : k < n
    · have h1 := (hv.1 k hlt).1
      have hd := dec_pos hv hlt
      have henc := enc_rune hd.2.2
      have hnx : ∀ ty, (Instr.next (.pointer (some ⟨w.heap.size + 1, 0, none⟩)) true ty).run Try.prog wr = _ := fun ty => Lib.run_next_any_at wr (w.heap.size + 1) s (pos s k) ty hu.it h1
      rw [hd.2.1, hd.1] at hnx
      have hM := hu.next
      clear hd h1 hu
      have hkk : k ≤ 1048576 := by omega
      generalize hW : wr.iterAt (w.heap.size + 1) s (pos s (k + 1)) = W1 at *
      clear hW hv hs
      go_wp2_with (first | (go_at_call 50; refine (otIns_any _ _).mono ?_; rintro e w1 ⟨rfl, hb1⟩; have hM := hM.below hb1; clear hb1) | (at_builtin; refine wpList_append_own _ rfl (.tmp 22) (.tmp 26) 22 rfl (w.heap.size + 2) 50 i0 (.agg #[.int .i64 0, .int .i64 0, .string ⟨#[]⟩]) 3 32 Try.underlying22 hin hz0 hz1 hz2 rfl (by decide) _ k _ rfl (hM.own.alloc _) ⟨_, 0, none⟩ 1 1 [.int .i64 2, .int .i64 0, .string (mk (ptB (pt s k).toNat))] rfl rfl (many_new _ _ _) (three_one _ _ _) (by unfold maxLen; omega) (by omega) (by have := hM.le; simp; omega) ?_; intro v2 w2 ho2 hg2 _; have hM2 := un_app hM ho2 hg2; clear ho2 hg2 hM))
      obtain ⟨ao2, cp2, rfl⟩ := own_form hM2.own
      exact ⟨⟨k + 1, by omega, hM2⟩, by simp only [lenV]; omega⟩
    · obtain rfl : k = n := by omega
      have hne : ¬ pos s k < s.size := by rw [hv.2]; omega
      have hnx : ∀ ty, (Instr.next (.pointer (some ⟨w.heap.size + 1, 0, none⟩)) true ty).run Try.prog wr = _ := fun ty => Lib.run_next_end_at wr (w.heap.size + 1) s (pos s k) ty hu.it hne
      clear hv hnp
      go_wp2_with fail
      go_ret
      exact ⟨_, rfl, own_lower hu.own (by omega), hu.bel⟩

theorem size_small {s : ByteArray} (h0 : 0 < cpl s) (h : cpl s ≤ 1000) : s.size ≤ 4000 := by
  have := size_cpl h0
  omega

/-- unitsOf of a step. -/
theorem unitsOf_any (s : St) (w : World) (ho : s.Ok) (hc : s.c ≤ 1000) :
    Calls Try.prog 63 #[s.op.val] w fun e w' => ∃ u, e = .returned u ∧ w'.ownsRow w.heap.size 50 3 u s.u.length (ocs (s.u.map uop)) ∧ Below w.heap.size w w' := by
  cases s with
  | keep n =>
    simp only [St.u, ocs_rep, List.length_replicate]
    exact unitsOf_num 1 (by decide) n w ho.1 ho.2
  | rem n =>
    simp only [St.u, ocs_rep, List.length_replicate]
    exact unitsOf_num 3 (by decide) n w ho.1 ho.2
  | ins t =>
    have h1 : cpl t ≤ 1000 := by simp only [St.c] at hc; omega
    have h2 := size_small ho.1 h1
    have h3 := unitsOf_ins t w ho.1 (by omega)
    simp only [St.u, List.length_map, List.map_map]
    rw [show (pts t).length = (cpl t).toNat by unfold pts; exact ptL_length _ _]
    exact h3
end Go.Proofs.Ytphbjbigjpfjfaa

/-
  What units has on its way: a row of units and the rest of a delta, in two cells. No walk.
-/
namespace Go.Proofs.Ytphbjbigjpfjfaa
open Go.ChangeShapes Go.WideShapes Go.ChangeAt Go.RowKit Go.PlainAid

/-- All blocks but those of S are as they were. -/
structure Only (S : List Nat) (w w' : World) : Prop where
  os : w'.os = w.os
  tape : w'.tape = w.tape
  output : w'.output = w.output
  size : w.heap.size ≤ w'.heap.size
  block : ∀ k, k < w.heap.size → k ∉ S → w'.heap[k]? = w.heap[k]?
theorem Only.refl (S : List Nat) (w : World) : Only S w w := ⟨rfl, rfl, rfl, Nat.le_refl _, fun _ _ _ => rfl⟩
theorem Only.trans {S : List Nat} {a b c : World} (h : Only S a b) (k : Only S b c) : Only S a c :=
  ⟨k.os.trans h.os, k.tape.trans h.tape, k.output.trans h.output, Nat.le_trans h.size k.size, fun i hi hn => (k.block i (Nat.lt_of_lt_of_le hi h.size) hn).trans (h.block i hi hn)⟩
theorem Only.mono {S T : List Nat} {a b : World} (h : Only S a b) (hs : ∀ k ∈ S, k ∈ T) : Only T a b := ⟨h.os, h.tape, h.output, h.size, fun i hi hn => h.block i hi (fun hk => hn (hs i hk))⟩
theorem Only.of_grown {S : List Nat} {a b : World} {row : Option Nat} (h : a.grownBy b row) (hs : ∀ k, row = some k → k ∈ S) : Only S a b :=
  ⟨h.os, h.tape, h.output, h.size, fun i hi hn => h.block i hi (fun e => hn (hs i e.symm))⟩
theorem Only.of_below {S : List Nat} {a b : World} (h : Below a.heap.size a b) : Only S a b := ⟨h.os, h.tape, h.output, h.size, fun i hi _ => h.block i hi⟩
theorem Only.alloc (S : List Nat) (w : World) (o : Obj) : Only S w (w.alloc o) := ⟨rfl, rfl, rfl, by simp, fun k hk _ => Below.heap_alloc w o k hk⟩
theorem Only.drew (S : List Nat) (w : World) : Only S w w.drew := ⟨rfl, rfl, rfl, Nat.le_refl _, fun _ _ _ => rfl⟩
theorem Only.setCell {S : List Nat} (w : World) {p : Addr} (hp : p.block ∈ S) (v : Value) : Only S w (w.setCell p v) :=
  ⟨rfl, rfl, rfl, by simp [World.setCell], fun k _ hn => Below.heap_setCell w p v k (fun e => hn (by rw [e]; exact hp))⟩
theorem Only.below {S : List Nat} {w w' : World} (h : Only S w w') {B : Nat} (hB : B ≤ w.heap.size) (hS : ∀ k ∈ S, B ≤ k) : Below B w w' :=
  ⟨h.os, h.tape, h.output, h.size, fun k hk => h.block k (by omega) (fun hm => by have := hS k hm; omega)⟩
theorem only_heap {S : List Nat} {w w' : World} {b : Nat} {o : Obj} (h : w.heap[b]? = some o) (ho : Only S w w') (hb : b ∉ S) : w'.heap[b]? = some o := (ho.block b (heap_lt h) hb).trans h
/-- What was changed has been made since. -/
theorem Only.new {S T : List Nat} {a b c : World} (h : Only T a b) (k : Only S b c) (hs : ∀ i ∈ S, i ∈ T ∨ a.heap.size ≤ i) : Only T a c :=
  ⟨k.os.trans h.os, k.tape.trans h.tape, k.output.trans h.output, Nat.le_trans h.size k.size, fun i hi hn => (k.block i (Nat.lt_of_lt_of_le hi h.size) (fun hk => (hs i hk).elim hn (fun h => by omega))).trans (h.block i hi hn)⟩
theorem own_only {S : List Nat} {w w' : World} {B e z n : Nat} {v : Value} {l : List Value} (h : w.ownsRow B e z v n l) (ho : Only S w w') (hb : ∀ g, v.ownBlock = some g → g ∉ S) : w'.ownsRow B e z v n l := by
  obtain ⟨h1, h2⟩ := h
  refine ⟨h1, ?_⟩
  rcases h2 with h2 | ⟨g, cap, cur, rfl, b, c, d⟩
  · exact .inl h2
  · exact .inr ⟨g, cap, cur, rfl, b, only_heap c ho (hb g rfl), d⟩

/-- A delta stays where its block stays. -/
theorem rdd_only {S : List Nat} {w w' : World} {v : Value} {l : List OpD} (h : RdD w v l) (ho : Only S w w') (hb : ∀ g, v.ownBlock = some g → g ∉ S) : RdD w' v l := by
  obtain ⟨ao, cp, rfl, h0, h1⟩ := h
  refine ⟨ao, cp, rfl, h0, fun i o hi => ?_⟩
  obtain ⟨b, off, rfl, hl, c0, c1, c2⟩ := h1 i o hi
  have hbl := ho.block b hl (hb b rfl)
  have hc : ∀ j, w'.cell? ⟨b, j, none⟩ = w.cell? ⟨b, j, none⟩ := fun j => by unfold World.cell?; rw [hbl]
  exact ⟨b, off, rfl, Nat.lt_of_lt_of_le hl ho.size, (hc _).trans c0, (hc _).trans c1, (hc _).trans c2⟩

set_option maxRecDepth 20000 in
/-- All of a delta but its first operation. -/
theorem rdd_tail {W : World} {v : Value} {x : OpD} {l : List OpD} (h : RdD W v (x :: l)) : ∃ (b o cp : Nat) (v' : Value), v = .slice (some ⟨b, o, none⟩) (l.length + 1) cp ∧ b < W.heap.size ∧
    W.cell? ⟨b, o, none⟩ = some (.int .i64 x.k) ∧ W.cell? ⟨b, o + 1, none⟩ = some (.int .i64 x.n) ∧ W.cell? ⟨b, o + 2, none⟩ = some (.string x.t) ∧
    (∀ W' : World, (Instr.slice 22 v (some (.int .i64 1)) none none).run Try.prog W' = .ok v' W') ∧ RdD W v' l ∧ v'.ownBlock = some b := by
  obtain ⟨ao, cp, rfl, ⟨hcp, _⟩, h1⟩ := h
  obtain ⟨b, o, rfl, hl, c0, c1, c2⟩ := h1 0 x (by simp)
  rw [List.length_cons] at *
  simp only [Nat.zero_mul, Nat.add_zero] at c0 c1 c2
  have e : Try.prog.elem 22 = 50 := by kernel_rfl
  have hsl : ∀ W' : World, (Instr.slice 22 (.slice (some ⟨b, o, none⟩) (l.length + 1) cp) (some (.int .i64 1)) none none).run Try.prog W' = .ok (sliced (some ⟨b, o, none⟩) 1 (l.length + 1) cp 3) W' := fun W' => by
    rw [run_slice_l (P := Try.prog) W' 22 (some ⟨b, o, none⟩) (l.length + 1) cp Try.underlying22 .i64 1 (by omega) (by omega), e, sizeOp]
    rfl
  by_cases c : cp = 1
  · subst c
    have hl0 : l = [] := List.eq_nil_of_length_eq_zero (by omega)
    subst hl0
    exact ⟨b, o, 1, _, rfl, hl, c0, c1, c2, hsl, ⟨some ⟨b, o, none⟩, 0, rfl, ⟨Nat.le_refl _, fun h => by cases h⟩, fun i o h => by simp at h⟩, rfl⟩
  · have es : sliced (some ⟨b, o, none⟩) 1 (l.length + 1) cp 3 = .slice (some ⟨b, o + 3, none⟩) l.length (cp - 1) := by
      unfold sliced
      rw [if_neg c]
      simp [addr3]
    rw [es] at hsl
    refine ⟨b, o, cp, _, rfl, hl, c0, c1, c2, hsl, ⟨some ⟨b, o + 3, none⟩, cp - 1, rfl, ⟨by omega, fun h => by cases h⟩, fun i y hi => ?_⟩, rfl⟩
    obtain ⟨b', o', e', _, d0, d1, d2⟩ := h1 (i + 1) y (by simpa using hi)
    simp at e'
    obtain ⟨rfl, rfl⟩ := e'
    have e3 : o + (i + 1) * 3 = o + 3 + i * 3 := by omega
    rw [e3] at d0 d1 d2
    exact ⟨b, o + 3, rfl, hl, d0, d1, d2⟩

/-- The cells p and q hold what units captured; L is to come. It reads no block but those of B. -/
structure It (W : World) (p q : Nat) (R : List U) (ds : List St) (rv dv : Value) (B : List Nat) : Prop where
  cp : W.heap[p]? = some (.cells #[rv] 22 (0, 0))
  cq : W.heap[q]? = some (.cells #[dv] 22 (0, 0))
  ne : p ≠ q
  r : RdD W rv (R.map uop)
  d : RdD W dv (ds.map St.op)
  ok : ∀ s ∈ ds, s.Ok ∧ s.c ≤ 1000
  rb : ∀ g, rv.ownBlock = some g → g ∈ B ∧ g ≠ p ∧ g ≠ q
  db : ∀ g, dv.ownBlock = some g → g ∈ B ∧ g ≠ p ∧ g ≠ q
  pb : p ∈ B
  qb : q ∈ B
  lt : ∀ g ∈ B, g < W.heap.size

theorem It.only {W W' : World} {p q : Nat} {R : List U} {ds : List St} {rv dv : Value} {B S : List Nat} (h : It W p q R ds rv dv B) (ho : Only S W W') (hs : ∀ g ∈ B, g ∉ S) : It W' p q R ds rv dv B :=
  ⟨only_heap h.cp ho (hs _ h.pb), only_heap h.cq ho (hs _ h.qb), h.ne, rdd_only h.r ho (fun g e => hs g (h.rb g e).1), rdd_only h.d ho (fun g e => hs g (h.db g e).1), h.ok, h.rb, h.db, h.pb, h.qb, fun g hg => Nat.lt_of_lt_of_le (h.lt g hg) ho.size⟩

/-- L is to come. -/
def ItL (W : World) (p q : Nat) (L : List U) (B : List Nat) : Prop := ∃ R ds rv dv, L = R ++ uw ds ∧ It W p q R ds rv dv B
theorem ItL.only {W W' : World} {p q : Nat} {L : List U} {B S : List Nat} (h : ItL W p q L B) (ho : Only S W W') (hs : ∀ g ∈ B, g ∉ S) : ItL W' p q L B := by
  obtain ⟨R, ds, rv, dv, e, h⟩ := h
  exact ⟨R, ds, rv, dv, e, h.only ho hs⟩

theorem one_set {W : World} {p : Nat} {v : Value} {t : TypeId} (h : W.heap[p]? = some (.cells #[v] t (0, 0))) (x : Value) : (W.setCell ⟨p, 0, none⟩ x).heap[p]? = some (.cells #[x] t (0, 0)) := by
  have := heap_setCell h 0 x
  simpa using this

/-- The first unit has been taken. -/
theorem It.take {W : World} {p q : Nat} {u : U} {R : List U} {ds : List St} {rv dv rv' : Value} {B : List Nat} (h : It W p q (u :: R) ds rv dv B) (hr : RdD W rv' (R.map uop)) (hb : rv'.ownBlock = rv.ownBlock) : It (W.setCell ⟨p, 0, none⟩ rv') p q R ds rv' dv B := by
  have ho : Only [p] W (W.setCell ⟨p, 0, none⟩ rv') := Only.setCell W (by simp) _
  have hr' : ∀ g, rv'.ownBlock = some g → g ∈ B ∧ g ≠ p ∧ g ≠ q := fun g e => h.rb g (hb ▸ e)
  exact ⟨one_set h.cp rv', only_heap h.cq ho (by simp; exact fun e => h.ne e.symm), h.ne, rdd_only hr ho (fun g e => by simp; exact (hr' g e).2.1), rdd_only h.d ho (fun g e => by simp; exact (h.db g e).2.1), h.ok, hr', h.db, h.pb, h.qb, fun g hg => by have := h.lt g hg; simp [World.setCell]; exact this⟩

/-- A step has been made units. -/
theorem It.load {W W1 : World} {p q : Nat} {s : St} {ds : List St} {rv dv rv' dv' : Value} {B : List Nat} (h : It W p q [] (s :: ds) rv dv B) (hb : Below W.heap.size W W1)
    (ho : W1.ownsRow W.heap.size 50 3 rv' s.u.length (ocs (s.u.map uop))) (hd : RdD W dv' (ds.map St.op)) (hdb : dv'.ownBlock = dv.ownBlock) :
    ∃ B', It ((W1.setCell ⟨p, 0, none⟩ rv').setCell ⟨q, 0, none⟩ dv') p q s.u ds rv' dv' B' ∧ ∀ g ∈ B', g ∈ B ∨ W.heap.size ≤ g := by
  have hoA : Only [] W W1 := ⟨hb.os, hb.tape, hb.output, hb.size, fun i hi _ => hb.block i hi⟩
  have hoB : Only [p, q] W1 ((W1.setCell ⟨p, 0, none⟩ rv').setCell ⟨q, 0, none⟩ dv') := (Only.setCell _ (by simp) _).trans (Only.setCell _ (by simp) _)
  have hlp := h.lt p h.pb
  have hlq := h.lt q h.qb
  have hsz : W.heap.size ≤ ((W1.setCell ⟨p, 0, none⟩ rv').setCell ⟨q, 0, none⟩ dv').heap.size := Nat.le_trans hoA.size hoB.size
  have hrr : ∀ g, rv'.ownBlock = some g → W.heap.size ≤ g ∧ g < W1.heap.size := fun g e => ho.lt g e
  have hcp := only_heap h.cp hoA (by simp)
  have hcq := only_heap h.cq hoA (by simp)
  have hdd : ∀ g, dv'.ownBlock = some g → g ∈ B ∧ g ≠ p ∧ g ≠ q := fun g e => h.db g (hdb ▸ e)
  have hc1 := one_set hcp rv'
  have hc2 := only_heap hcq (Only.setCell (S := [p]) W1 (p := ⟨p, 0, none⟩) (by simp) rv') (by simp; exact fun e => h.ne e.symm)
  refine ⟨rv'.ownBlock.toList ++ B, ⟨only_heap hc1 (Only.setCell (S := [q]) _ (by simp) _) (by simp; exact h.ne), one_set hc2 dv', h.ne, ?_, ?_, fun s hs => h.ok s (by simp [hs]), ?_, ?_, by simp [h.pb], by simp [h.qb], ?_⟩, ?_⟩
  · refine rdd_only (rdd_own (l := s.u.map uop) (W := W1) (by rw [List.length_map]; exact ho)) hoB (fun g e => ?_)
    have := hrr g e
    simp
    omega
  · refine rdd_only (rdd_only hd hoA (by simp)) hoB (fun g e => ?_)
    have := hdd g e
    simp [this.2]
  · intro g e
    have := hrr g e
    refine ⟨by simp [e], by omega, by omega⟩
  · intro g e
    have := hdd g e
    exact ⟨by simp [this.1], this.2⟩
  · intro g hg
    simp only [List.mem_append, Option.mem_toList] at hg
    rcases hg with hg | hg
    · have := hrr g hg
      have := hoB.size
      omega
    · have := h.lt g hg
      omega
  · intro g hg
    simp only [List.mem_append, Option.mem_toList] at hg
    rcases hg with hg | hg
    · exact .inr (hrr g hg).1
    · exact .inl hg

theorem u_ne {s : St} (h : s.Ok) : 0 < s.u.length := by
  cases s with
  | keep n => simp [St.u]; have := h.1; omega
  | rem n => simp [St.u]; have := h.1; omega
  | ins t =>
    have := h.1
    simp [St.u, pts, ptL]
    omega
end Go.Proofs.Ytphbjbigjpfjfaa

/-
  The contract of what units gives.
-/
namespace Go.Proofs.Ytphbjbigjpfjfaa
open Go.ChangeShapes Go.WideShapes Go.ChangeAt Go.RowKit Go.PlainAid

/-- What is answered behind the last one. -/
def zop : OpD := ⟨0, 0, ⟨#[]⟩⟩
def hdU : List U → OpD
  | [] => zop
  | u :: _ => uop u

set_option maxRecDepth 20000 in
set_option maxHeartbeats 1500000 in
theorem next_none {w : World} {p q : Nat} {rv dv : Value} {B : List Nat} (h : It w p q [] [] rv dv B) :
    Calls Try.prog 62 #[.pointer (some ⟨p, 0, none⟩), .pointer (some ⟨q, 0, none⟩)] w fun e w' => e = .returned zop.val ∧ Below w.heap.size w w' := by
  obtain ⟨ao, cp, rfl, _⟩ := h.r
  obtain ⟨ao', cp', rfl, _⟩ := h.d
  have hlp := h.lt p h.pb
  have hlq := h.lt q h.qb
  have c1 : ∀ x, (w.alloc x).cell? ⟨p, 0, none⟩ = some (.slice ao 0 cp) := fun x => by rw [World.cell?_alloc_past _ _ _ hlp]; exact cell_of_row _ _ 0 _ _ (0, 0) h.cp
  have c2 : ∀ x, (w.alloc x).cell? ⟨q, 0, none⟩ = some (.slice ao' 0 cp') := fun x => by rw [World.cell?_alloc_past _ _ _ hlq]; exact cell_of_row _ _ 0 _ _ (0, 0) h.cq
  go_enter Try.func62, Try.ntmps62
  go_wp2_with fail
  refine bodyPost_ret (results_cell_row rfl _ _ w.heap.size 50 _ (0, 0) _ rfl (heap_alloc_new w _) Try.underlying50 rfl Try.sizeOp) rfl ?_
  exact ⟨rfl, (Below.refl _ _).alloc (Nat.le_refl _) _⟩

set_option maxRecDepth 20000 in
set_option maxHeartbeats 1500000 in
theorem next_rest {w : World} {p q : Nat} {u : U} {R : List U} {ds : List St} {rv dv : Value} {B : List Nat} (h : It w p q (u :: R) ds rv dv B) :
    Calls Try.prog 62 #[.pointer (some ⟨p, 0, none⟩), .pointer (some ⟨q, 0, none⟩)] w fun e w' => e = .returned (uop u).val ∧ ItL w' p q (R ++ uw ds) B ∧ Only [p] w w' := by
  obtain ⟨b, o, cp, rv', rfl, hb, c0, c1, c2, hsl, hr', hob⟩ := rdd_tail h.r
  have hlp := h.lt p h.pb
  have hcp := cell_of_row _ _ 0 _ _ (0, 0) h.cp
  have a1 : ∀ x, (w.alloc x).cell? ⟨p, 0, none⟩ = _ := fun x => (World.cell?_alloc_past _ _ _ hlp).trans hcp
  have a2 : ∀ x, (w.alloc x).cell? ⟨b, o, none⟩ = _ := fun x => (World.cell?_alloc_past _ _ _ hb).trans c0
  have a3 : ∀ x, (w.alloc x).cell? ⟨b, o + 1, none⟩ = _ := fun x => (World.cell?_alloc_past _ _ _ hb).trans c1
  have a4 : ∀ x, (w.alloc x).cell? ⟨b, o + 2, none⟩ = _ := fun x => (World.cell?_alloc_past _ _ _ hb).trans c2
  have b1 : ∀ x y, ((w.alloc x).alloc y).cell? ⟨p, 0, none⟩ = _ := fun x y => (World.cell?_alloc_past _ _ _ (by simp; omega)).trans (a1 x)
  have f1 : ∀ x y, ((w.alloc x).alloc y).frozen? ⟨p, 0, none⟩ = false := fun x y => frz (((Below.heap_alloc (w.alloc x) y p (by simp; omega)).trans (Below.heap_alloc w x p hlp)).trans h.cp) 0
  clear c0 c1 c2 hcp
  obtain ⟨ao1, cp1, e1, _⟩ := id hr'
  subst e1
  generalize hm : (List.map uop R).length = m at *
  clear hm
  go_enter Try.func62, Try.ntmps62
  go_wp2_with fail
  have hT := h.take hr' (by rw [hob]; rfl)
  have hO : Only [p] w (w.setCell ⟨p, 0, none⟩ (.slice ao1 m cp1)) := Only.setCell w (by simp) _
  have hX : (w.setCell ⟨p, 0, none⟩ (.slice ao1 m cp1)).heap.size = w.heap.size := by simp [World.setCell]
  generalize w.setCell ⟨p, 0, none⟩ (.slice ao1 m cp1) = X at *
  have hh : ∀ A C, ((X.alloc A).alloc C).heap[w.heap.size]? = some A := fun A C => by
    rw [← hX]
    exact (Below.heap_alloc (X.alloc A) C X.heap.size (by simp)).trans (heap_alloc_new X A)
  refine bodyPost_ret (results_cell_row rfl _ _ w.heap.size 50 _ (0, 0) _ rfl (hh _ _) Try.underlying50 rfl Try.sizeOp) rfl ?_
  have hA : ∀ A C S, Only S X ((X.alloc A).alloc C) := fun A C S => (Only.alloc S X A).trans (Only.alloc S _ C)
  exact ⟨rfl, ⟨R, ds, _, _, rfl, hT.only (hA _ _ []) (by simp)⟩, hO.trans (hA _ _ _)⟩

theorem loaded {w w1 : World} {p q : Nat} {R : List U} {ds : List St} {rv dv : Value} {B : List Nat} {Z : Obj} (h : It w p q R ds rv dv B) (hb : Below (w.alloc Z).drew.heap.size (w.alloc Z).drew w1) :
    w1.cell? ⟨q, 0, none⟩ = some dv ∧ w1.cell? ⟨p, 0, none⟩ = some rv ∧ w1.frozen? ⟨p, 0, none⟩ = false ∧ w1.frozen? ⟨q, 0, none⟩ = false ∧ ∀ v, (w1.setCell ⟨p, 0, none⟩ v).cell? ⟨q, 0, none⟩ = some dv := by
  have hlp := h.lt p h.pb
  have hlq := h.lt q h.qb
  have hs : (w.alloc Z).drew.heap.size = w.heap.size + 1 := by show (w.alloc Z).heap.size = _; simp
  have hp : w1.heap[p]? = _ := ((hb.block p (by omega)).trans (Below.heap_alloc w Z p hlp)).trans h.cp
  have hq : w1.heap[q]? = _ := ((hb.block q (by omega)).trans (Below.heap_alloc w Z q hlq)).trans h.cq
  exact ⟨cell_of_row _ _ 0 _ _ (0, 0) hq, cell_of_row _ _ 0 _ _ (0, 0) hp, frz hp 0, frz hq 0, fun v => cell_of_row _ _ 0 _ _ (0, 0) (only_heap hq (Only.setCell (S := [p]) w1 (by simp) v) (by simp; exact fun e => h.ne e.symm))⟩

/-- Behind unitsOf and the two stores. -/
def Ld (w wx : World) (p q : Nat) (s : St) (ds : List St) (B : List Nat) : Prop :=
  ∃ rv dv B', It wx p q s.u ds rv dv B' ∧ (∀ g ∈ B', g ∈ B ∨ w.heap.size < g) ∧ wx.heap[w.heap.size]? = some (.cells #[.int .i64 0, .int .i64 0, .string ⟨#[]⟩] 50) ∧ Only [p, q] w wx
theorem ld_of {w w1 : World} {p q : Nat} {s : St} {ds : List St} {rv dv rv' dv' : Value} {B : List Nat} (h : It w p q [] (s :: ds) rv dv B) (hb : Below (w.alloc (.cells #[.int .i64 0, .int .i64 0, .string ⟨#[]⟩] 50)).drew.heap.size (w.alloc (.cells #[.int .i64 0, .int .i64 0, .string ⟨#[]⟩] 50)).drew w1)
    (ho : w1.ownsRow (w.alloc (.cells #[.int .i64 0, .int .i64 0, .string ⟨#[]⟩] 50)).drew.heap.size 50 3 rv' s.u.length (ocs (s.u.map uop))) (hd : RdD w dv' (ds.map St.op)) (hdb : dv'.ownBlock = dv.ownBlock) :
    Ld w ((w1.setCell ⟨p, 0, none⟩ rv').setCell ⟨q, 0, none⟩ dv') p q s ds B := by
  have hlp := h.lt p h.pb
  have hlq := h.lt q h.qb
  have hA : ∀ S, Only S w (w.alloc (.cells #[.int .i64 0, .int .i64 0, .string ⟨#[]⟩] 50)).drew := fun S => (Only.alloc S w _).trans (Only.drew S _)
  have hs : (w.alloc (.cells #[.int .i64 0, .int .i64 0, .string ⟨#[]⟩] 50)).drew.heap.size = w.heap.size + 1 := by show (w.alloc _).heap.size = _; simp
  have hn : (w.alloc (.cells #[.int .i64 0, .int .i64 0, .string ⟨#[]⟩] 50)).drew.heap[w.heap.size]? = some (.cells #[.int .i64 0, .int .i64 0, .string ⟨#[]⟩] 50) := heap_alloc_new w _
  have h' := h.only (hA []) (by simp)
  have hd2 := rdd_only hd (hA []) (by simp)
  obtain ⟨B', hI, hB⟩ := h'.load hb ho hd2 hdb
  have hO2 : Only [p, q] w1 ((w1.setCell ⟨p, 0, none⟩ rv').setCell ⟨q, 0, none⟩ dv') := (Only.setCell _ (by simp) _).trans (Only.setCell _ (by simp) _)
  refine ⟨_, _, B', hI, fun g hg => (hB g hg).imp id (fun e => by omega), ?_, ((hA _).trans (Only.of_below hb)).trans hO2⟩
  exact only_heap ((hb.block _ (by omega)).trans hn) hO2 (by simp; omega)

set_option maxRecDepth 20000 in
set_option maxHeartbeats 1500000 in
theorem next_load {w : World} {p q : Nat} {s : St} {ds : List St} {rv dv : Value} {B : List Nat} (h : It w p q [] (s :: ds) rv dv B) :
    Calls Try.prog 62 #[.pointer (some ⟨p, 0, none⟩), .pointer (some ⟨q, 0, none⟩)] w fun e w' => e = .returned (hdU (s.u ++ uw ds)).val ∧ (∃ B', ItL w' p q (s.u ++ uw ds).tail B' ∧ ∀ g ∈ B', g ∈ B ∨ w.heap.size ≤ g) ∧ Only [p, q] w w' := by
  obtain ⟨ao, cp, rfl, _⟩ := h.r
  obtain ⟨b, o, cp', dv', rfl, hb, c0, c1, c2, hsl, hd', hob⟩ := rdd_tail h.d
  have hlp := h.lt p h.pb
  have hlq := h.lt q h.qb
  have hcp := cell_of_row _ _ 0 _ _ (0, 0) h.cp
  have hcq := cell_of_row _ _ 0 _ _ (0, 0) h.cq
  obtain ⟨Z, hZ⟩ : ∃ Z : Obj, Z = .cells #[.int .i64 0, .int .i64 0, .string ⟨#[]⟩] 50 := ⟨_, rfl⟩
  have a1 : (w.alloc Z).cell? ⟨p, 0, none⟩ = _ := (World.cell?_alloc_past _ _ _ hlp).trans hcp
  have a5 : (w.alloc Z).cell? ⟨q, 0, none⟩ = _ := (World.cell?_alloc_past _ _ _ hlq).trans hcq
  have a2 : (w.alloc Z).cell? ⟨b, o, none⟩ = _ := (World.cell?_alloc_past _ _ _ hb).trans c0
  have a3 : (w.alloc Z).cell? ⟨b, o + 1, none⟩ = _ := (World.cell?_alloc_past _ _ _ hb).trans c1
  have a4 : (w.alloc Z).cell? ⟨b, o + 2, none⟩ = _ := (World.cell?_alloc_past _ _ _ hb).trans c2
  have hU := unitsOf_any s (w.alloc Z).drew (h.ok s (by simp)).1 (h.ok s (by simp)).2
  clear c0 c1 c2 hcp hcq
  obtain ⟨ao1, cp1, e1, _⟩ := id hd'
  subst e1
  generalize hm : (List.map St.op ds).length = m at *
  clear hm
  subst hZ
  go_enter Try.func62, Try.ntmps62
  go_upto_region 2 with fail
  go_cut [17] (fun _ wx => Ld w wx p q s ds B)
  case first =>
    go_region_with (go_at_call 63; refine hU.mono ?_; rintro e w1 ⟨v1, rfl, ho1, hb1⟩; obtain ⟨ao2, cp2, rfl⟩ := own_form ho1; obtain ⟨d1, d2, d3, d4, d5⟩ := loaded h hb1)
    all_goals
      go_wp2_with fail
      go_meet
    all_goals exact ld_of h hb1 ho1 hd' (by rw [hob]; rfl)
  case rest =>
    clear hU a1 a2 a3 a4 a5 hsl hd' hob
    obtain ⟨rv2, dv2, B', hI, hB', hz, hO⟩ := hcut
    have hle : w.heap.size < wc.heap.size := heap_lt hz
    have hok := u_ne (h.ok s (by simp)).1
    have hlt := h.lt
    clear h
    obtain ⟨u0, R0, HS⟩ : ∃ u0 R0, Hid (s.u = u0 :: R0) := by
      cases hsu : s.u with
      | nil => simp [hsu] at hok
      | cons u0 R0 => exact ⟨u0, R0, rfl⟩
    rw [HS.out] at hI
    clear hok
    obtain ⟨b2, o2, cp2, rv', rfl, hb2, c0, c1, c2, hsl, hr', hob⟩ := rdd_tail hI.r
    obtain ⟨ao3, cp3, e3, _⟩ := id hr'
    subst e3
    have hlp2 := hI.lt p hI.pb
    have hnp : w.heap.size ≠ p := by omega
    have hcp := cell_of_row _ _ 0 _ _ (0, 0) hI.cp
    have b1 : ∀ x, (wc.alloc x).cell? ⟨p, 0, none⟩ = _ := fun x => (World.cell?_alloc_past _ _ _ hlp2).trans hcp
    have f1 : ∀ x, (wc.alloc x).frozen? ⟨p, 0, none⟩ = false := fun x => frz ((Below.heap_alloc wc x p hlp2).trans hI.cp) 0
    have f0 := frz hI.cp 0
    have hz1 : ∀ v, (wc.setCell ⟨p, 0, none⟩ v).heap[w.heap.size]? = _ := fun v => only_heap hz (Only.setCell (S := [p]) wc (by simp) v) (by simp; exact hnp)
    have hz2 : ∀ v k, ((wc.setCell ⟨p, 0, none⟩ v).setCell ⟨w.heap.size, 0, none⟩ k).heap[w.heap.size]? = _ := fun v k => heap_setCell (hz1 v) 0 k
    have hz3 : ∀ v k n, (((wc.setCell ⟨p, 0, none⟩ v).setCell ⟨w.heap.size, 0, none⟩ k).setCell ⟨w.heap.size, 1, none⟩ n).heap[w.heap.size]? = _ := fun v k n => heap_setCell (hz2 v k) 1 n
    have hz4 : ∀ v k n t, ((((wc.setCell ⟨p, 0, none⟩ v).setCell ⟨w.heap.size, 0, none⟩ k).setCell ⟨w.heap.size, 1, none⟩ n).setCell ⟨w.heap.size, 2, none⟩ t).heap[w.heap.size]? = _ := fun v k n t => heap_setCell (hz3 v k n) 2 t
    have hal : ∀ (X : World) (x : Obj) (c : Array Value) (t : TypeId), X.heap[w.heap.size]? = some (.cells c t) → (X.alloc x).heap[w.heap.size]? = some (.cells c t) := fun X x c t h => (Below.heap_alloc X x _ (heap_lt h)).trans h
    have f2 : ∀ v x, ((wc.setCell ⟨p, 0, none⟩ v).alloc x).frozen? ⟨w.heap.size, 0, none⟩ = false := fun v x => frz (hal _ x _ _ (hz1 v)) 0
    have f3 : ∀ v k x, (((wc.setCell ⟨p, 0, none⟩ v).setCell ⟨w.heap.size, 0, none⟩ k).alloc x).frozen? ⟨w.heap.size, 1, none⟩ = false := fun v k x => frz (hal _ x _ _ (hz2 v k)) 1
    have f4 : ∀ v k n x, ((((wc.setCell ⟨p, 0, none⟩ v).setCell ⟨w.heap.size, 0, none⟩ k).setCell ⟨w.heap.size, 1, none⟩ n).alloc x).frozen? ⟨w.heap.size, 2, none⟩ = false := fun v k n x => frz (hal _ x _ _ (hz3 v k n)) 2
    have g2 : ∀ v x, ((wc.setCell ⟨p, 0, none⟩ v).alloc x).cell? ⟨w.heap.size, 0, none⟩ = some (.int .i64 0) := fun v x => cell_of_row _ _ 0 _ _ (0, 0) (hal _ x _ _ (hz1 v))
    have g3 : ∀ v k x, (((wc.setCell ⟨p, 0, none⟩ v).setCell ⟨w.heap.size, 0, none⟩ k).alloc x).cell? ⟨w.heap.size, 1, none⟩ = some (.int .i64 0) := fun v k x => cell_of_row _ _ 1 _ _ (0, 0) (hal _ x _ _ (hz2 v k))
    have g4 : ∀ v k n x, ((((wc.setCell ⟨p, 0, none⟩ v).setCell ⟨w.heap.size, 0, none⟩ k).setCell ⟨w.heap.size, 1, none⟩ n).alloc x).cell? ⟨w.heap.size, 2, none⟩ = some (.string ⟨#[]⟩) := fun v k n x => cell_of_row _ _ 2 _ _ (0, 0) (hal _ x _ _ (hz3 v k n))
    have HZ : Hid (∀ v k n t x, (((((wc.setCell ⟨p, 0, none⟩ v).setCell ⟨w.heap.size, 0, none⟩ k).setCell ⟨w.heap.size, 1, none⟩ n).setCell ⟨w.heap.size, 2, none⟩ t).alloc x).heap[w.heap.size]? = some (.cells #[k, n, t] 50)) := fun v k n t x => by
      have := hal _ x _ _ (hz4 v k n t)
      simpa using this
    clear hz1 hz2 hz3 hz4 hal
    generalize hm : (List.map uop R0).length = m0 at *
    clear hm
    go_wp2_with fail
    refine bodyPost_ret (results_cell_row rfl _ _ w.heap.size 50 _ (0, 0) _ rfl (HZ.out _ _ _ _ _) Try.underlying50 rfl Try.sizeOp) rfl ?_
    rw [HS.out]
    have hT := hI.take hr' (by rw [hob]; rfl)
    have hX : ∀ k n t x, Only [w.heap.size] (wc.setCell ⟨p, 0, none⟩ (.slice ao3 m0 cp3)) (((((wc.setCell ⟨p, 0, none⟩ (.slice ao3 m0 cp3)).setCell ⟨w.heap.size, 0, none⟩ k).setCell ⟨w.heap.size, 1, none⟩ n).setCell ⟨w.heap.size, 2, none⟩ t).alloc x) := fun k n t x =>
      (((Only.setCell _ (by simp) _).trans (Only.setCell _ (by simp) _)).trans (Only.setCell _ (by simp) _)).trans (Only.alloc _ _ _)
    have hP : Only [p, q] wc (wc.setCell ⟨p, 0, none⟩ (.slice ao3 m0 cp3)) := Only.setCell wc (by simp) _
    refine ⟨rfl, ⟨B', ⟨R0, ds, _, _, rfl, hT.only (hX _ _ _ _) (fun g hg => ?_)⟩, fun g hg => (hB' g hg).imp id (fun e => by omega)⟩, (hO.trans hP).new (hX _ _ _ _) (fun i hi => .inr (by simp at hi; omega))⟩
    have := hB' g hg
    simp
    rcases this with h1 | h1
    · have := hlt g h1; omega
    · omega

/-- What units gives, called. -/
theorem unit_any {w : World} {p q : Nat} {L : List U} {B : List Nat} (h : ItL w p q L B) :
    Calls Try.prog 62 #[.pointer (some ⟨p, 0, none⟩), .pointer (some ⟨q, 0, none⟩)] w fun e w' => e = .returned (hdU L).val ∧ (∃ B', ItL w' p q L.tail B' ∧ ∀ g ∈ B', g ∈ B ∨ w.heap.size ≤ g) ∧ Only [p, q] w w' := by
  obtain ⟨R, ds, rv, dv, rfl, h⟩ := h
  cases R with
  | cons u R =>
    refine (next_rest h).mono ?_
    rintro e w' ⟨rfl, hI, hO⟩
    exact ⟨rfl, ⟨B, hI, fun g hg => .inl hg⟩, hO.mono (by simp)⟩
  | nil =>
    cases ds with
    | nil =>
      refine (next_none h).mono ?_
      rintro e w' ⟨rfl, hb⟩
      exact ⟨rfl, ⟨B, ⟨[], [], rv, dv, rfl, h.only (Only.of_below (S := []) hb) (by simp)⟩, fun g hg => .inl hg⟩, Only.of_below hb⟩
    | cons s ds =>
      rw [List.nil_append, uw_cons]
      exact next_load h
end Go.Proofs.Ytphbjbigjpfjfaa

/-
  units; the store of an operation.
-/
namespace Go.Proofs.Ytphbjbigjpfjfaa
open Go.ChangeShapes Go.WideShapes Go.ChangeAt Go.RowKit Go.PlainAid

theorem ItL.in {W : World} {p q : Nat} {L : List U} {B : List Nat} (h : ItL W p q L B) : p ∈ B ∧ q ∈ B ∧ ∀ g ∈ B, g < W.heap.size := by
  obtain ⟨R, ds, rv, dv, e, h⟩ := h
  exact ⟨h.pb, h.qb, h.lt⟩

set_option maxRecDepth 20000 in
set_option maxHeartbeats 1500000 in
theorem units_any (dv : Value) (ds : List St) (w : World) (hr : RdD w dv (ds.map St.op)) (hb : ∀ g, dv.ownBlock = some g → g < w.heap.size) (hok : ∀ s ∈ ds, s.Ok ∧ s.c ≤ 1000) :
    Calls Try.prog 45 #[dv] w fun e w' => e = .returned (.func (.func 62) #[] #[.pointer (some ⟨w.heap.size + 1, 0, none⟩), .pointer (some ⟨w.heap.size, 0, none⟩)]) ∧ ItL w' (w.heap.size + 1) w.heap.size (uw ds) ([w.heap.size + 1, w.heap.size] ++ dv.ownBlock.toList) ∧ Below w.heap.size w w' ∧ w'.heap.size = w.heap.size + 2 := by
  have hmf : ∀ (fn : Fn) (first cap : Array Value) (w : World), (Instr.makeFunc fn first cap).run Try.prog w = .ok (.func fn first cap) w := fun _ _ _ _ => rfl
  obtain ⟨ao, cp, e0, _⟩ := id hr
  have hI : It ((w.alloc (.cells #[dv] 22)).alloc (.cells #[.slice none 0 0] 22)) (w.heap.size + 1) w.heap.size [] ds (.slice none 0 0) dv ([w.heap.size + 1, w.heap.size] ++ dv.ownBlock.toList) := by
    have hO : Only [] w ((w.alloc (.cells #[dv] 22)).alloc (.cells #[.slice none 0 0] 22)) := (Only.alloc _ _ _).trans (Only.alloc _ _ _)
    refine ⟨?_, ?_, by omega, RdD.nil _, rdd_only hr hO (by simp), hok, ?_, ?_, by simp, by simp, ?_⟩
    · have := heap_alloc_new (w.alloc (.cells #[dv] 22)) (.cells #[.slice none 0 0] 22)
      rw [World.size_alloc] at this
      exact this
    · exact (Below.heap_alloc _ _ _ (by simp)).trans (heap_alloc_new w _)
    · intro g hg; cases hg
    · intro g hg
      have := hb g hg
      exact ⟨by simp [hg], by omega, by omega⟩
    · intro g hg
      simp only [List.cons_append, List.nil_append, List.mem_cons, Option.mem_toList] at hg
      have : ∀ g, dv.ownBlock = some g → g < w.heap.size := hb
      rcases hg with rfl | rfl | hg
      · simp
      · simp; omega
      · have := hb g hg; simp; omega
  subst e0
  generalize (List.map St.op ds).length = m at *
  go_enter Try.func45, Try.ntmps45
  go_wp2_with fail
  go_ret
  exact ⟨rfl, ⟨[], ds, _, _, rfl, hI⟩, ((Below.refl _ w).alloc (Nat.le_refl _) _).alloc (by simp) _, by simp⟩

/-- A whole operation is stored. -/
theorem run_store3 (w : World) (b : Nat) (k n t : Value) (cur : Array Value) (hb : w.heap[b]? = some (.cells cur 50 (0, 0))) (hs : cur.size = 3) (h1 : ∀ v ∈ [k, n, t], v.oneCell' = true) :
    (storeCells ⟨b, 0, none⟩ [k, n, t]).run Try.prog w = .ok () (w.setRow b #[k, n, t]) := by
  have h := run_storeCells_at Try.prog b 0 50 [k, n, t] 0 cur w hb (by simp [hs]) h1
  rw [h]
  congr 2
  apply Array.ext'
  simp only [Nat.add_zero, List.take_zero, List.nil_append, List.length_cons, List.length_nil]
  rw [List.drop_of_length_le (by simp [hs])]
  simp
end Go.Proofs.Ytphbjbigjpfjfaa

/-
  What composed has on its way. No walk.
-/
namespace Go.Proofs.Ytphbjbigjpfjfaa
open Go.ChangeShapes Go.WideShapes Go.ChangeAt Go.RowKit Go.PlainAid

/-- How long a word's target is. -/
def tgtU : List U → Nat
  | [] => 0
  | .R :: l => tgtU l
  | .K :: l => tgtU l + 1
  | .I _ :: l => tgtU l + 1

/-- a and then b. -/
def cmp : List U → List U → List U
  | .R :: a, b => .R :: cmp a b
  | [], .I z :: b => .I z :: cmp [] b
  | .K :: a, .I z :: b => .I z :: cmp (.K :: a) b
  | .I y :: a, .I z :: b => .I z :: cmp (.I y :: a) b
  | .K :: a, .K :: b => .K :: cmp a b
  | .I z :: a, .K :: b => .I z :: cmp a b
  | .K :: a, .R :: b => .R :: cmp a b
  | .I _ :: a, .R :: b => cmp a b
  | _, _ => []
termination_by a b => a.length + b.length

def OpD.cs (o : OpD) : Array Value := #[.int .i64 o.k, .int .i64 o.n, .string o.t]

/-- Two units' cells, two rows of units to come, and the delta that grows. -/
structure Cm (w W : World) (bx by' pA qA pB qB : Nat) (X Y : OpD) (LA LB : List U) (d : Value) (D : List OpD) (BA BB : List Nat) : Prop where
  own : W.ownsRow w.heap.size 50 3 d D.length (ocs D)
  cx : W.heap[bx]? = some (.cells X.cs 50 (0, 0))
  cy : W.heap[by']? = some (.cells Y.cs 50 (0, 0))
  ia : ItL W pA qA LA BA
  ib : ItL W pB qB LB BB
  dj : ∀ g ∈ BA, g ∉ BB
  xa : bx ∉ BA ∧ bx ∉ BB ∧ by' ∉ BA ∧ by' ∉ BB ∧ bx ≠ by'
  da : ∀ g, d.ownBlock = some g → g ∉ BA ∧ g ∉ BB ∧ g ≠ bx ∧ g ≠ by'
  bel : Below w.heap.size w W
  hi : w.heap.size ≤ pA ∧ w.heap.size ≤ qA ∧ w.heap.size ≤ pB ∧ w.heap.size ≤ qB ∧ w.heap.size ≤ bx ∧ w.heap.size ≤ by'

section
variable {w W W' : World} {bx by' pA qA pB qB : Nat} {X Y : OpD} {LA LB L' : List U} {d : Value} {D : List OpD} {BA BB B' : List Nat}
theorem Cm.le (h : Cm w W bx by' pA qA pB qB X Y LA LB d D BA BB) : w.heap.size ≤ W.heap.size := h.bel.size
theorem Cm.cellsX (h : Cm w W bx by' pA qA pB qB X Y LA LB d D BA BB) : W.cell? ⟨bx, 0, none⟩ = some (.int .i64 X.k) ∧ W.cell? ⟨bx, 1, none⟩ = some (.int .i64 X.n) ∧ W.cell? ⟨bx, 2, none⟩ = some (.string X.t) :=
  ⟨cell_of_row _ _ 0 _ _ (0, 0) h.cx, cell_of_row _ _ 1 _ _ (0, 0) h.cx, cell_of_row _ _ 2 _ _ (0, 0) h.cx⟩
theorem Cm.cellsY (h : Cm w W bx by' pA qA pB qB X Y LA LB d D BA BB) : W.cell? ⟨by', 0, none⟩ = some (.int .i64 Y.k) ∧ W.cell? ⟨by', 1, none⟩ = some (.int .i64 Y.n) ∧ W.cell? ⟨by', 2, none⟩ = some (.string Y.t) :=
  ⟨cell_of_row _ _ 0 _ _ (0, 0) h.cy, cell_of_row _ _ 1 _ _ (0, 0) h.cy, cell_of_row _ _ 2 _ _ (0, 0) h.cy⟩
theorem Cm.callA (h : Cm w W bx by' pA qA pB qB X Y LA LB d D BA BB) (ho : Only [pA, qA] W W') (hi : ItL W' pA qA L' B') (hB : ∀ g ∈ B', g ∈ BA ∨ W.heap.size ≤ g) : Cm w W' bx by' pA qA pB qB X Y L' LB d D B' BB := by
  obtain ⟨hpa, hqa, _⟩ := h.ia.in
  obtain ⟨_, _, hlb⟩ := h.ib.in
  have hxa := h.xa
  have hhi := h.hi
  have hlx := heap_lt h.cx
  have hly := heap_lt h.cy
  have hn : ∀ g, g ∉ BA → g ∉ [pA, qA] := fun g hg hm => by
    simp only [List.mem_cons, List.not_mem_nil, or_false] at hm
    rcases hm with rfl | rfl
    · exact hg hpa
    · exact hg hqa
  have hd : ∀ g, d.ownBlock = some g → g < W.heap.size := fun g e => (h.own.lt g e).2
  have hf : ∀ g, g < W.heap.size → g ∉ BA → g ∉ B' := fun g hl hg hm => (hB g hm).elim hg (fun h => by omega)
  exact ⟨own_only h.own ho (fun g e => hn g (h.da g e).1), only_heap h.cx ho (hn _ hxa.1), only_heap h.cy ho (hn _ hxa.2.2.1), hi, h.ib.only ho (fun g hg => hn g (fun hm => h.dj g hm hg)),
    fun g hg hb => (hB g hg).elim (fun hm => h.dj g hm hb) (fun hl => by have := hlb g hb; omega), ⟨hf _ hlx hxa.1, hxa.2.1, hf _ hly hxa.2.2.1, hxa.2.2.2⟩,
    fun g e => ⟨hf g (hd g e) (h.da g e).1, (h.da g e).2⟩, h.bel.trans (ho.below h.le (by simp; omega)), hhi⟩
theorem Cm.callB (h : Cm w W bx by' pA qA pB qB X Y LA LB d D BA BB) (ho : Only [pB, qB] W W') (hi : ItL W' pB qB L' B') (hB : ∀ g ∈ B', g ∈ BB ∨ W.heap.size ≤ g) : Cm w W' bx by' pA qA pB qB X Y LA L' d D BA B' := by
  obtain ⟨hpb, hqb, _⟩ := h.ib.in
  obtain ⟨_, _, hla⟩ := h.ia.in
  have hxa := h.xa
  have hhi := h.hi
  have hlx := heap_lt h.cx
  have hly := heap_lt h.cy
  have hn : ∀ g, g ∉ BB → g ∉ [pB, qB] := fun g hg hm => by
    simp only [List.mem_cons, List.not_mem_nil, or_false] at hm
    rcases hm with rfl | rfl
    · exact hg hpb
    · exact hg hqb
  have hd : ∀ g, d.ownBlock = some g → g < W.heap.size := fun g e => (h.own.lt g e).2
  have hf : ∀ g, g < W.heap.size → g ∉ BB → g ∉ B' := fun g hl hg hm => (hB g hm).elim hg (fun h => by omega)
  exact ⟨own_only h.own ho (fun g e => hn g (h.da g e).2.1), only_heap h.cx ho (hn _ hxa.2.1), only_heap h.cy ho (hn _ hxa.2.2.2.1), h.ia.only ho (fun g hg => hn g (h.dj g hg)), hi,
    fun g hg => hf g (hla g hg) (h.dj g hg), ⟨hxa.1, hf _ hlx hxa.2.1, hxa.2.2.1, hf _ hly hxa.2.2.2.1, hxa.2.2.2.2⟩,
    fun g e => ⟨(h.da g e).1, hf g (hd g e) (h.da g e).2.1, (h.da g e).2.2⟩, h.bel.trans (ho.below h.le (by simp; omega)), hhi⟩
theorem Cm.app {o : OpD} {x : Obj} {g cap : Nat} (h : Cm w W bx by' pA qA pB qB X Y LA LB d D BA BB)
    (ho : W'.ownsRow w.heap.size 50 3 (.slice (some ⟨g, 0, none⟩) (D.length + 1) cap) (D.length + 1) (ocs D ++ [Value.int .i64 o.k, .int .i64 o.n, .string o.t])) (hg : (W.alloc x).grownBy W' d.ownBlock) (hl : d.ownBlock = some g ∨ g = W.heap.size + 1) :
    Cm w W' bx by' pA qA pB qB X Y LA LB (.slice (some ⟨g, 0, none⟩) (D.length + 1) cap) (D ++ [o]) BA BB := by
  have hO : Only d.ownBlock.toList W W' := (Only.alloc _ W x).trans (Only.of_grown hg (fun k e => by simp [e]))
  have hn : ∀ (B : List Nat), (∀ g, d.ownBlock = some g → g ∉ B) → ∀ g ∈ B, g ∉ d.ownBlock.toList := fun B hB g hg hm => hB g (by simpa using hm) hg
  have hlx := heap_lt h.cx
  have hly := heap_lt h.cy
  obtain ⟨_, _, hla⟩ := h.ia.in
  obtain ⟨_, _, hlb⟩ := h.ib.in
  have hx : bx ∉ d.ownBlock.toList := fun hm => (h.da bx (by simpa using hm)).2.2.1 rfl
  have hy : by' ∉ d.ownBlock.toList := fun hm => (h.da by' (by simpa using hm)).2.2.2 rfl
  refine ⟨own_op ho rfl, only_heap h.cx hO hx, only_heap h.cy hO hy, h.ia.only hO (hn BA (fun g e => (h.da g e).1)), h.ib.only hO (hn BB (fun g e => (h.da g e).2.1)), h.dj, h.xa, ?_, h.bel.trans (hO.below h.le (fun k hk => (h.own.lt k (by simpa using hk)).1)), h.hi⟩
  intro g' e
  have e' : g = g' := by simpa [Value.ownBlock] using e
  subst e'
  rcases hl with hl | hl
  · exact h.da g hl
  · exact ⟨fun hm => by have := hla g hm; omega, fun hm => by have := hlb g hm; omega, by omega, by omega⟩
theorem Cm.storeX (h : Cm w W bx by' pA qA pB qB X Y LA LB d D BA BB) (Z : OpD) : Cm w (W.setRow bx Z.cs) bx by' pA qA pB qB Z Y LA LB d D BA BB := by
  have hO : Only [bx] W (W.setRow bx Z.cs) := ⟨rfl, rfl, rfl, by simp, fun k _ hn => setRow_other _ _ _ _ (by simpa using hn)⟩
  have hxa := h.xa
  exact ⟨own_only h.own hO (fun g e => by simp; exact (h.da g e).2.2.1), setRow_heap _ _ _ _ _ _ h.cx, only_heap h.cy hO (by simp; exact fun e => hxa.2.2.2.2 e.symm), h.ia.only hO (fun g hg => by simp; exact fun e => hxa.1 (e ▸ hg)), h.ib.only hO (fun g hg => by simp; exact fun e => hxa.2.1 (e ▸ hg)), h.dj, h.xa, h.da, h.bel.trans (hO.below h.le (by simp; exact h.hi.2.2.2.2.1)), h.hi⟩
theorem Cm.storeY (h : Cm w W bx by' pA qA pB qB X Y LA LB d D BA BB) (Z : OpD) : Cm w (W.setRow by' Z.cs) bx by' pA qA pB qB X Z LA LB d D BA BB := by
  have hO : Only [by'] W (W.setRow by' Z.cs) := ⟨rfl, rfl, rfl, by simp, fun k _ hn => setRow_other _ _ _ _ (by simpa using hn)⟩
  have hxa := h.xa
  exact ⟨own_only h.own hO (fun g e => by simp; exact (h.da g e).2.2.2), only_heap h.cx hO (by simp; exact hxa.2.2.2.2), setRow_heap _ _ _ _ _ _ h.cy, h.ia.only hO (fun g hg => by simp; exact fun e => hxa.2.2.1 (e ▸ hg)), h.ib.only hO (fun g hg => by simp; exact fun e => hxa.2.2.2.1 (e ▸ hg)), h.dj, h.xa, h.da, h.bel.trans (hO.below h.le (by simp; exact h.hi.2.2.2.2.2)), h.hi⟩
end
end Go.Proofs.Ytphbjbigjpfjfaa

/-
  The contract of composed.
-/
namespace Go.Proofs.Ytphbjbigjpfjfaa
open Go.ChangeShapes Go.WideShapes Go.ChangeAt Go.RowKit Go.PlainAid

theorem cm_start {w w0 w1 w2 w3 w4 : World} {vA vB : Value} {pA qA pB qB : Nat} {LA LB LA' LB' : List U} {BA' BB' : List Nat} {X Y : OpD}
    (h1 : ItL w1 pA qA LA ([pA, qA] ++ vA.ownBlock.toList)) (h2 : ItL w2 pB qB LB ([pB, qB] ++ vB.ownBlock.toList)) (hw0 : w0 = w) (hp : w.heap.size ≤ pA ∧ w.heap.size ≤ qA ∧ w1.heap.size ≤ pB ∧ w1.heap.size ≤ qB)
    (hb1 : Below w.heap.size w w1) (hb2 : Below w1.heap.size w1 w2) (hbb : ∀ g, vB.ownBlock = some g → g < w.heap.size) (hap : ∀ g, vA.ownBlock = some g → vB.ownBlock ≠ some g)
    (h3 : ItL w3 pA qA LA' BA') (hB3 : ∀ g ∈ BA', g ∈ [pA, qA] ++ vA.ownBlock.toList ∨ w2.heap.size ≤ g) (ho3 : Only [pA, qA] w2 w3)
    (h4 : ItL w4 pB qB LB' BB') (hB4 : ∀ g ∈ BB', g ∈ [pB, qB] ++ vB.ownBlock.toList ∨ w3.heap.size ≤ g) (ho4 : Only [pB, qB] w3 w4) :
    Cm w ((w4.alloc (.cells X.cs 50)).alloc (.cells Y.cs 50)) w4.heap.size (w4.heap.size + 1) pA qA pB qB X Y LA' LB' (.slice none 0 0) [] BA' BB' := by
  subst hw0
  obtain ⟨hpa, hqa, hla⟩ := h1.in
  obtain ⟨hpb, hqb, hlb⟩ := h2.in
  obtain ⟨_, _, hl3⟩ := h3.in
  obtain ⟨_, _, hl4⟩ := h4.in
  have s1 := hb1.size
  have s2 := hb2.size
  have s3 := ho3.size
  have s4 := ho4.size
  have hpl := hla pA (by simp)
  have hql := hla qA (by simp)
  have hdj : ∀ g, g ∈ [pA, qA] ++ vA.ownBlock.toList → g ∉ [pB, qB] ++ vB.ownBlock.toList := fun g hg hm => by
    have hg1 := hla g hg
    simp only [List.cons_append, List.nil_append, List.mem_cons, Option.mem_toList] at hg hm
    rcases hm with rfl | rfl | hm
    · omega
    · omega
    · have := hbb g hm
      rcases hg with rfl | rfl | hg
      · omega
      · omega
      · exact hap g hg hm
  have hAB : ∀ g ∈ BA', g ∉ BB' := fun g ha hb => by
    have hlg := hl3 g ha
    rcases hB4 g hb with h | h
    · rcases hB3 g ha with h' | h'
      · exact hdj g h' h
      · have := hlb g h; omega
    · omega
  have hiA4 : ItL w4 pA qA LA' BA' := h3.only ho4 (fun g hg hm => by
    have hlg := hl3 g hg
    have hm' : g ∈ [pB, qB] ++ vB.ownBlock.toList := List.mem_append_left _ hm
    rcases hB3 g hg with h | h
    · exact hdj g h hm'
    · have := hlb g hm'; omega)
  have hO : ∀ S, Only S w4 ((w4.alloc (.cells X.cs 50)).alloc (.cells Y.cs 50)) := fun S => (Only.alloc _ _ _).trans (Only.alloc _ _ _)
  have e1 : ((w4.alloc (.cells X.cs 50)).alloc (.cells Y.cs 50)).heap[w4.heap.size + 1]? = some (.cells Y.cs 50) := by
    have := heap_alloc_new (w4.alloc (.cells X.cs 50)) (.cells Y.cs 50)
    rw [World.size_alloc] at this
    exact this
  have hl3' : ∀ g ∈ BA', g < w4.heap.size := fun g hg => by have := hl3 g hg; omega
  refine ⟨World.ownsRow_nil _ _ _ _, (Below.heap_alloc _ _ _ (by simp)).trans (heap_alloc_new w4 _), e1, hiA4.only (hO []) (by simp), h4.only (hO []) (by simp), hAB, ⟨fun h => by have := hl3' _ h; omega, fun h => by have := hl4 _ h; omega, fun h => by have := hl3' _ h; omega, fun h => by have := hl4 _ h; omega, by omega⟩, fun g e => (by cases e), ?_, ⟨hp.1, hp.2.1, by omega, by omega, by omega, by omega⟩⟩
  have b3 : Below w0.heap.size w2 w3 := ho3.below (by omega) (by simp; omega)
  have b4 : Below w0.heap.size w3 w4 := ho4.below (by omega) (by simp; omega)
  exact (((hb1.trans (hb2.mono s1)).trans b3).trans b4).trans ((hO []).below (by omega) (by simp))

/-- What the walk asks where an operation is stored in three cells. -/
theorem stf {W : World} {b : Nat} {o : OpD} (h : W.heap[b]? = some (.cells o.cs 50 (0, 0))) :
    W.frozen? ⟨b, 0, none⟩ = false ∧ W.cell? ⟨b, 0, none⟩ = some (.int .i64 o.k) ∧ (∀ k, (W.setCell ⟨b, 0, none⟩ k).frozen? ⟨b, 1, none⟩ = false) ∧ (∀ k, (W.setCell ⟨b, 0, none⟩ k).cell? ⟨b, 1, none⟩ = some (.int .i64 o.n)) ∧
    (∀ k n, ((W.setCell ⟨b, 0, none⟩ k).setCell ⟨b, 1, none⟩ n).frozen? ⟨b, 2, none⟩ = false) ∧ (∀ k n, ((W.setCell ⟨b, 0, none⟩ k).setCell ⟨b, 1, none⟩ n).cell? ⟨b, 2, none⟩ = some (.string o.t)) := by
  have h1 : ∀ k, (W.setCell ⟨b, 0, none⟩ k).heap[b]? = _ := fun k => heap_setCell h 0 k
  have h2 : ∀ k n, ((W.setCell ⟨b, 0, none⟩ k).setCell ⟨b, 1, none⟩ n).heap[b]? = _ := fun k n => heap_setCell (h1 k) 1 n
  exact ⟨frz h 0, cell_of_row _ _ 0 _ _ (0, 0) h, fun k => frz (h1 k) 1, fun k => cell_of_row _ _ 1 _ _ (0, 0) (h1 k), fun k n => frz (h2 k n) 2, fun k n => cell_of_row _ _ 2 _ _ (0, 0) (h2 k n)⟩
theorem stf2 {W : World} {b c : Nat} {o : OpD} (h : W.heap[c]? = some (.cells o.cs 50 (0, 0))) (hn : c ≠ b) :
    (∀ x y z, (((W.setCell ⟨b, 0, none⟩ x).setCell ⟨b, 1, none⟩ y).setCell ⟨b, 2, none⟩ z).frozen? ⟨c, 0, none⟩ = false) ∧ (∀ x y z, (((W.setCell ⟨b, 0, none⟩ x).setCell ⟨b, 1, none⟩ y).setCell ⟨b, 2, none⟩ z).cell? ⟨c, 0, none⟩ = some (.int .i64 o.k)) ∧
    (∀ x y z k, ((((W.setCell ⟨b, 0, none⟩ x).setCell ⟨b, 1, none⟩ y).setCell ⟨b, 2, none⟩ z).setCell ⟨c, 0, none⟩ k).frozen? ⟨c, 1, none⟩ = false) ∧ (∀ x y z k, ((((W.setCell ⟨b, 0, none⟩ x).setCell ⟨b, 1, none⟩ y).setCell ⟨b, 2, none⟩ z).setCell ⟨c, 0, none⟩ k).cell? ⟨c, 1, none⟩ = some (.int .i64 o.n)) ∧
    (∀ x y z k n, (((((W.setCell ⟨b, 0, none⟩ x).setCell ⟨b, 1, none⟩ y).setCell ⟨b, 2, none⟩ z).setCell ⟨c, 0, none⟩ k).setCell ⟨c, 1, none⟩ n).frozen? ⟨c, 2, none⟩ = false) ∧ (∀ x y z k n, (((((W.setCell ⟨b, 0, none⟩ x).setCell ⟨b, 1, none⟩ y).setCell ⟨b, 2, none⟩ z).setCell ⟨c, 0, none⟩ k).setCell ⟨c, 1, none⟩ n).cell? ⟨c, 2, none⟩ = some (.string o.t)) := by
  have hV : ∀ x y z, (((W.setCell ⟨b, 0, none⟩ x).setCell ⟨b, 1, none⟩ y).setCell ⟨b, 2, none⟩ z).heap[c]? = some (.cells o.cs 50 (0, 0)) := fun x y z =>
    only_heap h (((Only.setCell (S := [b]) W (by simp) x).trans (Only.setCell _ (by simp) y)).trans (Only.setCell _ (by simp) z)) (by simp; exact hn)
  exact ⟨fun x y z => (stf (hV x y z)).1, fun x y z => (stf (hV x y z)).2.1, fun x y z => (stf (hV x y z)).2.2.1, fun x y z => (stf (hV x y z)).2.2.2.1, fun x y z => (stf (hV x y z)).2.2.2.2.1, fun x y z => (stf (hV x y z)).2.2.2.2.2⟩
/-- Three stores are one. -/
theorem set3 {W : World} {b : Nat} {o : OpD} (h : W.heap[b]? = some (.cells o.cs 50 (0, 0))) (k n t : Value) : ((W.setCell ⟨b, 0, none⟩ k).setCell ⟨b, 1, none⟩ n).setCell ⟨b, 2, none⟩ t = W.setRow b #[k, n, t] := by
  have h1 : (W.setCell ⟨b, 0, none⟩ k).heap[b]? = _ := heap_setCell h 0 k
  have h2 : ((W.setCell ⟨b, 0, none⟩ k).setCell ⟨b, 1, none⟩ n).heap[b]? = _ := heap_setCell h1 1 n
  rw [setCell_eq_setRow _ b 2 _ 50 (0, 0) t h2, setCell_eq_setRow _ b 1 _ 50 (0, 0) n h1, setCell_eq_setRow W b 0 _ 50 (0, 0) k h, setRow_setRow, setRow_setRow]
  rfl

theorem unit_go {w : World} {p q : Nat} {L : List U} {B : List Nat} (h : ItL w p q L B) :
    Calls Try.prog 62 #[.pointer (some ⟨p, 0, none⟩), .pointer (some ⟨q, 0, none⟩)] w fun e w' => e = .returned (.agg #[.int .i64 (hdU L).k, .int .i64 (hdU L).n, .string (hdU L).t]) ∧ (∃ B', ItL w' p q L.tail B' ∧ ∀ g ∈ B', g ∈ B ∨ w.heap.size ≤ g) ∧ Only [p, q] w w' := unit_any h

set_option maxRecDepth 20000 in
set_option maxHeartbeats 4000000 in
theorem composed_any (vA vB : Value) (dA dB : List St) (w : World) (hA : RdD w vA (dA.map St.op)) (hB : RdD w vB (dB.map St.op)) (hbA : ∀ g, vA.ownBlock = some g → g < w.heap.size) (hbB : ∀ g, vB.ownBlock = some g → g < w.heap.size) (hap : ∀ g, vA.ownBlock = some g → vB.ownBlock ≠ some g)
    (okA : ∀ s ∈ dA, s.Ok ∧ s.c ≤ 1000) (okB : ∀ s ∈ dB, s.Ok ∧ s.c ≤ 1000) (hlen : (uw dA).length + (uw dB).length ≤ 100000) (ht : tgtU (uw dA) = baseU (uw dB)) :
    Calls Try.prog 23 #[vA, vB] w fun e w' => ∃ u, e = .returned u ∧ w'.ownsRow w.heap.size 50 3 u (cmp (uw dA) (uw dB)).length (ocs ((cmp (uw dA) (uw dB)).map uop)) ∧ Below w.heap.size w w' := by
  obtain ⟨i0, hin, hz0, hz1, hz2⟩ := info_parts Try.infoOp
  have hU1 := units_any vA dA w hA hbA okA
  go_enter Try.func23, Try.ntmps23
  go_wp2_with fail
  refine hU1.mono ?_
  rintro e w1 ⟨rfl, hI1, hb1, hs1⟩
  have hU2 := units_any vB dB w1 (hB.below hb1) (fun g e => by have := hbB g e; omega) okB
  go_wp2_with fail
  refine hU2.mono ?_
  rintro e w2 ⟨rfl, hI2, hb2, hs2⟩
  have hs1' : w1.heap.size = w.heap.size + 2 := hs1
  rw [hs1] at hI2 hs2
  clear hU1 hU2
  have hI12 := hI1.only (Only.of_below (S := []) hb2) (by simp)
  go_wp2_with fail
  refine (unit_go hI12).mono ?_
  rintro e w3 ⟨rfl, ⟨BA, hI3, hB3⟩, ho3⟩
  have hI23 := hI2.only ho3 (fun g hg hm => by
    simp only [List.cons_append, List.nil_append, List.mem_cons, Option.mem_toList, List.not_mem_nil, or_false] at hg hm
    rcases hg with rfl | rfl | hg
    · omega
    · omega
    · have := hbB g hg; omega)
  go_wp2_with fail
  refine (unit_go hI23).mono ?_
  rintro e w4 ⟨rfl, ⟨BB, hI4, hB4⟩, ho4⟩
  have hM := cm_start (X := hdU (uw dA)) (Y := hdU (uw dB)) hI1 hI2 rfl ⟨by omega, by omega, by omega, by omega⟩ hb1 hb2 hbB hap hI3 hB3 ho3 hI4 hB4 ho4
  clear hI1 hI2 hI12 hI23 hI3 hB3 ho3 hI4 hB4 ho4 hb1 hb2 hs2
  go_wp2_with fail
  clear hA hB okA okB hbA hbB hap hs1 hs1'
  go_loopg [5] ((uw dA).length + (uw dB).length) (fun g d wr => ∃ (LA LB : List U) (D : List OpD) (BA BB : List Nat), Aside (D ++ (cmp LA LB).map uop = (cmp (uw dA) (uw dB)).map uop) ∧ Aside (tgtU LA = baseU LB) ∧ Aside (LA.length + LB.length = g ∧ D.length + g ≤ 100000) ∧ Cm w wr w4.heap.size (w4.heap.size + 1) (w.heap.size + 1) w.heap.size (w.heap.size + 2 + 1) (w.heap.size + 2) (hdU LA) (hdU LB) LA.tail LB.tail d D BA BB)
  case atStart => exact ⟨uw dA, uw dB, [], BA, BB, by show _ = _; simp, ht, ⟨rfl, by simpa using hlen⟩, hM⟩
  case round =>
    clear hM BA BB ht
    obtain ⟨LA, LB, D, BA, BB, HE, HT, HG, hM⟩ := hrel
    have hDl : D.length ≤ 100000 := by have := HG.out; omega
    obtain ⟨ao5, cp5, rfl⟩ := own_form hM.own
    obtain ⟨x0, x1, x2⟩ := hM.cellsX
    obtain ⟨y0, y1, y2⟩ := hM.cellsY
    rcases LA with _ | ⟨u, a⟩
    · rcases LB with _ | ⟨v, b⟩
      · simp only [hdU, zop] at x0 y0
        clear x1 x2 y1 y2
        go_wp2_with fail
        go_ret
        have hE := HE.out
        simp only [cmp, List.map_nil, List.append_nil] at hE
        refine ⟨_, rfl, ?_, hM.bel⟩
        have hl : D.length = (cmp (uw dA) (uw dB)).length := by rw [hE, List.length_map]
        rw [← hl, ← hE]
        exact hM.own
      · cases v with
        | K =>
          exfalso
          have := HT.out
          simp only [tgtU, baseU] at this
          omega
        | R =>
          exfalso
          have := HT.out
          simp only [tgtU, baseU] at this
          omega
        | I z =>
          simp only [hdU, uop, zop] at x0 x1 x2 y0 y1 y2
          clear x1 x2
          go_wp2_with (first | (at_builtin; refine wpList_append_lies _ rfl (.tmp 40) (.tmp 42) 22 rfl w.heap.size 50 i0 (.agg #[.int .i64 0, .int .i64 0, .string ⟨#[]⟩]) 3 32 Try.underlying22 hin hz0 hz1 hz2 rfl (by decide) (.slice ao5 D.length cp5) D.length (ocs D) rfl (hM.own.alloc _) ⟨_, 0, none⟩ 1 1 [.int .i64 2, .int .i64 0, .string (mk (ptB z.toNat))] rfl rfl (many_new _ _ _) (three_one _ _ _) (by decide) (by unfold maxLen; omega) (by omega) (by have := hM.le; simp; omega) _ rfl ?_; intro g9 c9 w9 ho9 hg9 hl9 _; have hMa := hM.app (o := ⟨2, 0, (mk (ptB z.toNat))⟩) ho9 hg9 (hl9.imp id (fun e => by rw [e, World.size_alloc])); clear ho9 hg9 hl9) | (go_at_call 62; refine (unit_go hMa.ib).mono ?_; rintro e w8 ⟨rfl, ⟨BB2, hI8, hB8⟩, ho8⟩; have hM1 := hMa.callB ho8 hI8 hB8; clear hI8 hB8 ho8; obtain ⟨s0, s1, s2, s3, s4, s5⟩ := stf hM1.cy))
          clear s0 s1 s2 s3 s4 s5
          rw [set3 hM1.cy]
          have hM2 := hM1.storeY (hdU b)
          go_roundg ((([] : List U)).length + (b).length)
          case measure => have := HG.out; simp at this; simp; omega
          case rel =>
            refine ⟨([] : List U), b, D ++ [uop (.I z)], BA, BB2, ?_, ?_, ?_, hM2⟩
            · have := HE.out
              show _ = _
              rw [← this]
              simp [cmp, uop]
            · have := HT.out
              show _ = _
              simp [tgtU, baseU] at this ⊢
              omega
            · have := HG.out
              refine ⟨rfl, ?_⟩
              simp at this ⊢
              omega
    · cases u with
      | R =>
        simp only [hdU, uop] at x0 x1 x2
        clear y1 y2
        go_wp2_with (first | (at_builtin; refine wpList_append_lies _ rfl (.tmp 30) (.tmp 32) 22 rfl w.heap.size 50 i0 (.agg #[.int .i64 0, .int .i64 0, .string ⟨#[]⟩]) 3 32 Try.underlying22 hin hz0 hz1 hz2 rfl (by decide) (.slice ao5 D.length cp5) D.length (ocs D) rfl (hM.own.alloc _) ⟨_, 0, none⟩ 1 1 [.int .i64 3, .int .i64 1, .string ⟨#[]⟩] rfl rfl (many_new _ _ _) (three_one _ _ _) (by decide) (by unfold maxLen; omega) (by omega) (by have := hM.le; simp; omega) _ rfl ?_; intro g9 c9 w9 ho9 hg9 hl9 _; have hMa := hM.app (o := ⟨3, 1, ⟨#[]⟩⟩) ho9 hg9 (hl9.imp id (fun e => by rw [e, World.size_alloc])); clear ho9 hg9 hl9) | (go_at_call 62; refine (unit_go hMa.ia).mono ?_; rintro e w8 ⟨rfl, ⟨BA2, hI8, hB8⟩, ho8⟩; have hM1 := hMa.callA ho8 hI8 hB8; clear hI8 hB8 ho8; obtain ⟨s0, s1, s2, s3, s4, s5⟩ := stf hM1.cx))
        clear s0 s1 s2 s3 s4 s5
        rw [set3 hM1.cx]
        have hM2 := hM1.storeX (hdU a)
        go_roundg ((a).length + (LB).length)
        case measure => have := HG.out; simp at this; simp; omega
        case rel =>
          refine ⟨a, LB, D ++ [uop .R], BA2, BB, ?_, ?_, ?_, hM2⟩
          · have := HE.out
            show _ = _
            rw [← this]
            simp [cmp, uop]
          · have := HT.out
            show _ = _
            simp [tgtU] at this ⊢
            omega
          · have := HG.out
            refine ⟨rfl, ?_⟩
            simp at this ⊢
            omega
      | K =>
        rcases LB with _ | ⟨v, b⟩
        · exfalso
          have := HT.out
          simp only [tgtU, baseU] at this
          omega
        · cases v with
          | K =>
            simp only [hdU, uop] at x0 x1 x2 y0 y1 y2
            clear y1 y2
            go_wp2_with (at_builtin; refine wpList_append_lies _ rfl (.tmp 50) (.tmp 52) 22 rfl w.heap.size 50 i0 (.agg #[.int .i64 0, .int .i64 0, .string ⟨#[]⟩]) 3 32 Try.underlying22 hin hz0 hz1 hz2 rfl (by decide) (.slice ao5 D.length cp5) D.length (ocs D) rfl (hM.own.alloc _) ⟨_, 0, none⟩ 1 1 [.int .i64 1, .int .i64 1, .string ⟨#[]⟩] rfl rfl (many_new _ _ _) (three_one _ _ _) (by decide) (by unfold maxLen; omega) (by omega) (by have := hM.le; simp; omega) _ rfl ?_; intro g9 c9 w9 ho9 hg9 hl9 _; have hMa := hM.app (o := ⟨1, 1, ⟨#[]⟩⟩) ho9 hg9 (hl9.imp id (fun e => by rw [e, World.size_alloc])); clear ho9 hg9 hl9)
            refine (unit_go hMa.ia).mono ?_
            rintro e w8 ⟨rfl, ⟨BA2, hI8, hB8⟩, ho8⟩
            have hM1 := hMa.callA ho8 hI8 hB8
            clear hI8 hB8 ho8
            go_wp2_with fail
            refine (unit_go hM1.ib).mono ?_
            rintro e w10 ⟨rfl, ⟨BB2, hI8, hB8⟩, ho8⟩
            have hM2 := hM1.callB ho8 hI8 hB8
            clear hI8 hB8 ho8
            obtain ⟨s0, s1, s2, s3, s4, s5⟩ := stf hM2.cx
            obtain ⟨t0, t1, t2, t3, t4, t5⟩ := stf2 hM2.cy (b := w4.heap.size) (by omega)
            go_wp2_with fail
            clear s0 s1 s2 s3 s4 s5 t0 t1 t2 t3 t4 t5
            rw [set3 hM2.cx]
            have hM3 := hM2.storeX (hdU a)
            have e3 := set3 (W := w10.setRow w4.heap.size #[.int .i64 (hdU a).k, .int .i64 (hdU a).n, .string (hdU a).t]) hM3.cy (.int .i64 (hdU b).k) (.int .i64 (hdU b).n) (.string (hdU b).t)
            rw [e3]
            have hM4 := hM3.storeY (hdU b)
            go_roundg ((a).length + (b).length)
            case measure => have := HG.out; simp at this; simp; omega
            case rel =>
              refine ⟨a, b, D ++ [uop (.K)], BA2, BB2, ?_, ?_, ?_, hM4⟩
              · have := HE.out
                show _ = _
                rw [← this]
                simp [cmp, uop]
              · have := HT.out
                show _ = _
                simp [tgtU, baseU] at this ⊢
                omega
              · have := HG.out
                refine ⟨rfl, ?_⟩
                simp at this ⊢
                omega
          | R =>
            simp only [hdU, uop] at x0 x1 x2 y0 y1 y2
            clear x1 x2
            go_wp2_with (at_builtin; refine wpList_append_lies _ rfl (.tmp 58) (.tmp 60) 22 rfl w.heap.size 50 i0 (.agg #[.int .i64 0, .int .i64 0, .string ⟨#[]⟩]) 3 32 Try.underlying22 hin hz0 hz1 hz2 rfl (by decide) (.slice ao5 D.length cp5) D.length (ocs D) rfl (hM.own.alloc _) ⟨_, 0, none⟩ 1 1 [.int .i64 3, .int .i64 1, .string ⟨#[]⟩] rfl rfl (many_new _ _ _) (three_one _ _ _) (by decide) (by unfold maxLen; omega) (by omega) (by have := hM.le; simp; omega) _ rfl ?_; intro g9 c9 w9 ho9 hg9 hl9 _; have hMa := hM.app (o := ⟨3, 1, ⟨#[]⟩⟩) ho9 hg9 (hl9.imp id (fun e => by rw [e, World.size_alloc])); clear ho9 hg9 hl9)
            refine (unit_go hMa.ia).mono ?_
            rintro e w8 ⟨rfl, ⟨BA2, hI8, hB8⟩, ho8⟩
            have hM1 := hMa.callA ho8 hI8 hB8
            clear hI8 hB8 ho8
            go_wp2_with fail
            refine (unit_go hM1.ib).mono ?_
            rintro e w10 ⟨rfl, ⟨BB2, hI8, hB8⟩, ho8⟩
            have hM2 := hM1.callB ho8 hI8 hB8
            clear hI8 hB8 ho8
            obtain ⟨s0, s1, s2, s3, s4, s5⟩ := stf hM2.cx
            obtain ⟨t0, t1, t2, t3, t4, t5⟩ := stf2 hM2.cy (b := w4.heap.size) (by omega)
            go_wp2_with fail
            clear s0 s1 s2 s3 s4 s5 t0 t1 t2 t3 t4 t5
            rw [set3 hM2.cx]
            have hM3 := hM2.storeX (hdU a)
            have e3 := set3 (W := w10.setRow w4.heap.size #[.int .i64 (hdU a).k, .int .i64 (hdU a).n, .string (hdU a).t]) hM3.cy (.int .i64 (hdU b).k) (.int .i64 (hdU b).n) (.string (hdU b).t)
            rw [e3]
            have hM4 := hM3.storeY (hdU b)
            go_roundg ((a).length + (b).length)
            case measure => have := HG.out; simp at this; simp; omega
            case rel =>
              refine ⟨a, b, D ++ [uop .R], BA2, BB2, ?_, ?_, ?_, hM4⟩
              · have := HE.out
                show _ = _
                rw [← this]
                simp [cmp, uop]
              · have := HT.out
                show _ = _
                simp [tgtU, baseU] at this ⊢
                omega
              · have := HG.out
                refine ⟨rfl, ?_⟩
                simp at this ⊢
                omega
          | I z =>
            simp only [hdU, uop] at x0 x1 x2 y0 y1 y2
            clear x1 x2
            go_wp2_with (first | (at_builtin; refine wpList_append_lies _ rfl (.tmp 40) (.tmp 42) 22 rfl w.heap.size 50 i0 (.agg #[.int .i64 0, .int .i64 0, .string ⟨#[]⟩]) 3 32 Try.underlying22 hin hz0 hz1 hz2 rfl (by decide) (.slice ao5 D.length cp5) D.length (ocs D) rfl (hM.own.alloc _) ⟨_, 0, none⟩ 1 1 [.int .i64 2, .int .i64 0, .string (mk (ptB z.toNat))] rfl rfl (many_new _ _ _) (three_one _ _ _) (by decide) (by unfold maxLen; omega) (by omega) (by have := hM.le; simp; omega) _ rfl ?_; intro g9 c9 w9 ho9 hg9 hl9 _; have hMa := hM.app (o := ⟨2, 0, (mk (ptB z.toNat))⟩) ho9 hg9 (hl9.imp id (fun e => by rw [e, World.size_alloc])); clear ho9 hg9 hl9) | (go_at_call 62; refine (unit_go hMa.ib).mono ?_; rintro e w8 ⟨rfl, ⟨BB2, hI8, hB8⟩, ho8⟩; have hM1 := hMa.callB ho8 hI8 hB8; clear hI8 hB8 ho8; obtain ⟨s0, s1, s2, s3, s4, s5⟩ := stf hM1.cy))
            clear s0 s1 s2 s3 s4 s5
            rw [set3 hM1.cy]
            have hM2 := hM1.storeY (hdU b)
            go_roundg ((.K :: a).length + (b).length)
            case measure => have := HG.out; simp at this; simp; omega
            case rel =>
              refine ⟨.K :: a, b, D ++ [uop (.I z)], BA, BB2, ?_, ?_, ?_, hM2⟩
              · have := HE.out
                show _ = _
                rw [← this]
                simp [cmp, uop]
              · have := HT.out
                show _ = _
                simp [tgtU, baseU] at this ⊢
                omega
              · have := HG.out
                refine ⟨rfl, ?_⟩
                simp at this ⊢
                omega
      | I y =>
        rcases LB with _ | ⟨v, b⟩
        · exfalso
          have := HT.out
          simp only [tgtU, baseU] at this
          omega
        · cases v with
          | K =>
            simp only [hdU, uop] at x0 x1 x2 y0 y1 y2
            clear y1 y2
            go_wp2_with (at_builtin; refine wpList_append_lies _ rfl (.tmp 50) (.tmp 52) 22 rfl w.heap.size 50 i0 (.agg #[.int .i64 0, .int .i64 0, .string ⟨#[]⟩]) 3 32 Try.underlying22 hin hz0 hz1 hz2 rfl (by decide) (.slice ao5 D.length cp5) D.length (ocs D) rfl (hM.own.alloc _) ⟨_, 0, none⟩ 1 1 [.int .i64 2, .int .i64 0, .string (mk (ptB y.toNat))] rfl rfl (many_new _ _ _) (three_one _ _ _) (by decide) (by unfold maxLen; omega) (by omega) (by have := hM.le; simp; omega) _ rfl ?_; intro g9 c9 w9 ho9 hg9 hl9 _; have hMa := hM.app (o := ⟨2, 0, (mk (ptB y.toNat))⟩) ho9 hg9 (hl9.imp id (fun e => by rw [e, World.size_alloc])); clear ho9 hg9 hl9)
            refine (unit_go hMa.ia).mono ?_
            rintro e w8 ⟨rfl, ⟨BA2, hI8, hB8⟩, ho8⟩
            have hM1 := hMa.callA ho8 hI8 hB8
            clear hI8 hB8 ho8
            go_wp2_with fail
            refine (unit_go hM1.ib).mono ?_
            rintro e w10 ⟨rfl, ⟨BB2, hI8, hB8⟩, ho8⟩
            have hM2 := hM1.callB ho8 hI8 hB8
            clear hI8 hB8 ho8
            obtain ⟨s0, s1, s2, s3, s4, s5⟩ := stf hM2.cx
            obtain ⟨t0, t1, t2, t3, t4, t5⟩ := stf2 hM2.cy (b := w4.heap.size) (by omega)
            go_wp2_with fail
            clear s0 s1 s2 s3 s4 s5 t0 t1 t2 t3 t4 t5
            rw [set3 hM2.cx]
            have hM3 := hM2.storeX (hdU a)
            have e3 := set3 (W := w10.setRow w4.heap.size #[.int .i64 (hdU a).k, .int .i64 (hdU a).n, .string (hdU a).t]) hM3.cy (.int .i64 (hdU b).k) (.int .i64 (hdU b).n) (.string (hdU b).t)
            rw [e3]
            have hM4 := hM3.storeY (hdU b)
            go_roundg ((a).length + (b).length)
            case measure => have := HG.out; simp at this; simp; omega
            case rel =>
              refine ⟨a, b, D ++ [uop (.I y)], BA2, BB2, ?_, ?_, ?_, hM4⟩
              · have := HE.out
                show _ = _
                rw [← this]
                simp [cmp, uop]
              · have := HT.out
                show _ = _
                simp [tgtU, baseU] at this ⊢
                omega
              · have := HG.out
                refine ⟨rfl, ?_⟩
                simp at this ⊢
                omega
          | R =>
            simp only [hdU, uop] at x0 x1 x2 y0 y1 y2
            clear x1 x2 y1 y2
            go_wp2_with fail
            refine (unit_go hM.ia).mono ?_
            rintro e w8 ⟨rfl, ⟨BA2, hI8, hB8⟩, ho8⟩
            have hM1 := hM.callA ho8 hI8 hB8
            clear hI8 hB8 ho8
            go_wp2_with fail
            refine (unit_go hM1.ib).mono ?_
            rintro e w10 ⟨rfl, ⟨BB2, hI8, hB8⟩, ho8⟩
            have hM2 := hM1.callB ho8 hI8 hB8
            clear hI8 hB8 ho8
            obtain ⟨s0, s1, s2, s3, s4, s5⟩ := stf hM2.cx
            obtain ⟨t0, t1, t2, t3, t4, t5⟩ := stf2 hM2.cy (b := w4.heap.size) (by omega)
            go_wp2_with fail
            clear s0 s1 s2 s3 s4 s5 t0 t1 t2 t3 t4 t5
            rw [set3 hM2.cx]
            have hM3 := hM2.storeX (hdU a)
            have e3 := set3 (W := w10.setRow w4.heap.size #[.int .i64 (hdU a).k, .int .i64 (hdU a).n, .string (hdU a).t]) hM3.cy (.int .i64 (hdU b).k) (.int .i64 (hdU b).n) (.string (hdU b).t)
            rw [e3]
            have hM4 := hM3.storeY (hdU b)
            go_roundg ((a).length + (b).length)
            case measure => have := HG.out; simp at this; simp; omega
            case rel =>
              refine ⟨a, b, D, BA2, BB2, ?_, ?_, ?_, hM4⟩
              · have := HE.out
                show _ = _
                rw [← this]
                simp [cmp]
              · have := HT.out
                show _ = _
                simp [tgtU, baseU] at this ⊢
                omega
              · have := HG.out
                refine ⟨rfl, ?_⟩
                simp at this ⊢
                omega
          | I z =>
            simp only [hdU, uop] at x0 x1 x2 y0 y1 y2
            clear x1 x2
            go_wp2_with (first | (at_builtin; refine wpList_append_lies _ rfl (.tmp 40) (.tmp 42) 22 rfl w.heap.size 50 i0 (.agg #[.int .i64 0, .int .i64 0, .string ⟨#[]⟩]) 3 32 Try.underlying22 hin hz0 hz1 hz2 rfl (by decide) (.slice ao5 D.length cp5) D.length (ocs D) rfl (hM.own.alloc _) ⟨_, 0, none⟩ 1 1 [.int .i64 2, .int .i64 0, .string (mk (ptB z.toNat))] rfl rfl (many_new _ _ _) (three_one _ _ _) (by decide) (by unfold maxLen; omega) (by omega) (by have := hM.le; simp; omega) _ rfl ?_; intro g9 c9 w9 ho9 hg9 hl9 _; have hMa := hM.app (o := ⟨2, 0, (mk (ptB z.toNat))⟩) ho9 hg9 (hl9.imp id (fun e => by rw [e, World.size_alloc])); clear ho9 hg9 hl9) | (go_at_call 62; refine (unit_go hMa.ib).mono ?_; rintro e w8 ⟨rfl, ⟨BB2, hI8, hB8⟩, ho8⟩; have hM1 := hMa.callB ho8 hI8 hB8; clear hI8 hB8 ho8; obtain ⟨s0, s1, s2, s3, s4, s5⟩ := stf hM1.cy))
            clear s0 s1 s2 s3 s4 s5
            rw [set3 hM1.cy]
            have hM2 := hM1.storeY (hdU b)
            go_roundg ((.I y :: a).length + (b).length)
            case measure => have := HG.out; simp at this; simp; omega
            case rel =>
              refine ⟨.I y :: a, b, D ++ [uop (.I z)], BA, BB2, ?_, ?_, ?_, hM2⟩
              · have := HE.out
                show _ = _
                rw [← this]
                simp [cmp, uop]
              · have := HT.out
                show _ = _
                simp [tgtU, baseU] at this ⊢
                omega
              · have := HG.out
                refine ⟨rfl, ?_⟩
                simp at this ⊢
                omega
end Go.Proofs.Ytphbjbigjpfjfaa

/-
  The contract of normals.
-/
namespace Go.Proofs.Ytphbjbigjpfjfaa
open Go.ChangeShapes Go.WideShapes Go.ChangeAt Go.RowKit Go.PlainAid

set_option maxRecDepth 20000 in
set_option maxHeartbeats 1500000 in
/-- An error: nothing but the error of the first one that has one. -/
theorem normals_bad (vA vB : Value) (A B : List OpD) (w : World) (hA : RdD w vA A) (hB : RdD w vB B) (mA : A.length ≤ maxLen) (mB : B.length ≤ maxLen) (iA : ∀ o ∈ A, o.In) (iB : ∀ o ∈ B, o.In) (h : ¬ (chk A = 0 ∧ chk B = 0)) :
    Calls Try.prog 19 #[vA, vB] w fun e w' => e = .returned (.tuple #[.slice none 0 0, .slice none 0 0, .int .i64 (if chk A = 0 then chk B else chk A)]) ∧ Below w.heap.size w w' := by
  have hC := normal_any vA A w hA mA iA
  by_cases c : chk A = 0
  · have c2 : chk B ≠ 0 := fun h2 => h ⟨c, h2⟩
    have c2' : (chk B != 0) = true := by simpa using c2
    rw [if_pos c]
    rw [c] at hC
    clear h
    go_enter Try.func19, Try.ntmps19
    go_wp2_with fail
    refine hC.mono ?_
    rintro e w1 ⟨u1, rfl, ho1, hb1⟩
    have hD := normal_any vB B w1 (hB.below hb1) mB iB
    clear hC
    go_wp2_with fail
    refine hD.mono ?_
    rintro e w2 ⟨u2, rfl, ho2, hb2⟩
    go_wp2_with fail
    go_ret3
    exact ⟨rfl, hb1.trans (hb2.mono hb1.size)⟩
  · have c' : (chk A != 0) = true := by simpa using c
    rw [if_neg c]
    clear h
    go_enter Try.func19, Try.ntmps19
    go_wp2_with fail
    refine hC.mono ?_
    rintro e w1 ⟨u1, rfl, ho1, hb1⟩
    clear hC
    go_wp2_with fail
    go_ret3
    exact ⟨rfl, hb1⟩

set_option maxRecDepth 20000 in
set_option maxHeartbeats 1500000 in
theorem normals_ok (vA vB : Value) (A B : List OpD) (w : World) (hA : RdD w vA A) (hB : RdD w vB B) (mA : A.length ≤ maxLen) (mB : B.length ≤ maxLen) (iA : ∀ o ∈ A, o.In) (iB : ∀ o ∈ B, o.In) (h1 : chk A = 0) (h2 : chk B = 0) :
    Calls Try.prog 19 #[vA, vB] w fun e w' => ∃ uA uB, e = .returned (.tuple #[uA, uB, .int .i64 0]) ∧ w'.ownsRow w.heap.size 50 3 uA (jn (stR A)).length (ocs (jn (stR A))) ∧ w'.ownsRow w.heap.size 50 3 uB (jn (stR B)).length (ocs (jn (stR B))) ∧ (∀ g, uA.ownBlock = some g → uB.ownBlock ≠ some g) ∧ Below w.heap.size w w' := by
  have hC := normal_any vA A w hA mA iA
  rw [h1] at hC
  go_enter Try.func19, Try.ntmps19
  go_wp2_with fail
  refine hC.mono ?_
  rintro e w1 ⟨u1, rfl, ho1, hb1⟩
  have hD := normal_any vB B w1 (hB.below hb1) mB iB
  rw [h2] at hD
  clear hC
  go_wp2_with fail
  refine hD.mono ?_
  rintro e w2 ⟨u2, rfl, ho2, hb2⟩
  clear hD
  go_wp2_with fail
  go_ret3
  refine ⟨u1, u2, rfl, own_belowG ho1 hb2, own_lower ho2 hb1.size, fun g e1 e2 => ?_, hb1.trans (hb2.mono hb1.size)⟩
  have := (ho1.lt g e1).2
  have := (ho2.lt g e2).1
  omega
end Go.Proofs.Ytphbjbigjpfjfaa

/-
  The contract of Compose.
-/
namespace Go.Proofs.Ytphbjbigjpfjfaa
open Go.ChangeShapes Go.WideShapes Go.ChangeAt Go.RowKit Go.PlainAid

theorem kst_op {o : OpD} {s : St} (h : stOf o = some s) : s.op = o := by
  obtain ⟨k, n, t⟩ := o
  simp only [stOf] at h
  split at h
  · rename_i h1
    have ht := empty_eq h1.2.2
    subst ht
    split at h
    · rename_i hk
      cases h
      simp only [St.op, hk]
      congr 1; omega
    · split at h
      · rename_i hk
        cases h
        simp only [St.op, hk]
        congr 1; omega
      · cases h
  · split at h
    · rename_i h1
      cases h
      simp only [St.op, h1.1, h1.2.1]
    · cases h
theorem kstl_op : ∀ {ds : List OpD}, ds.any (fun o => (stOf o).isNone) = false → (stl ds).map St.op = ds
  | [], _ => rfl
  | o :: ds, h => by
    simp only [List.any_cons, Bool.or_eq_false_iff] at h
    cases hs : stOf o with
    | none => rw [hs] at h; simp at h
    | some s =>
      have e : stl (o :: ds) = s :: stl ds := by simp [stl, hs]
      rw [e, List.map_cons, kst_op hs, kstl_op h.2]
theorem kchk_any {ds : List OpD} (h : chk ds = 0) : ds.any (fun o => (stOf o).isNone) = false ∧ ds.length ≤ 3000 := by
  rw [chk] at h
  split at h
  · omega
  · split at h
    · omega
    · rename_i h1 h2
      exact ⟨by simpa using h2, by omega⟩
theorem kstR_op {ds : List OpD} (h : chk ds = 0) : (stR ds).map St.op = ds := by
  rw [chk_yes ds h]
  exact kstl_op (kchk_any h).1

theorem tgt_targ : ∀ (l : List U) (i : Nat), (mkU i l).length = tgtU l
  | [], _ => rfl
  | .K :: l, i => by rw [mkU, List.length_cons, tgt_targ l]; rfl
  | .R :: l, i => by rw [mkU, tgt_targ l]; rfl
  | .I z :: l, i => by rw [mkU, List.length_cons, tgt_targ l]; rfl
theorem tgt_uw (l : List St) : tgtU (uw l) = tsum l := by rw [← targ_uw, targU, tgt_targ]
theorem len_uw : ∀ l : List U, l.length ≤ baseU l + tgtU l
  | [] => by simp
  | .K :: l => by have := len_uw l; simp [baseU, tgtU]; omega
  | .R :: l => by have := len_uw l; simp [baseU, tgtU]; omega
  | .I z :: l => by have := len_uw l; simp [baseU, tgtU]; omega
theorem c_le {l : List St} {s : St} (h : s ∈ l) : s.c ≤ tsum l := by
  induction l with
  | nil => simp at h
  | cons a l ih =>
    have e : tsum (a :: l) = a.c + tsum l := by simp [tsum]
    rw [e]
    rcases List.mem_cons.1 h with rfl | h
    · omega
    · have := ih h; omega
theorem uop_in (u : U) : (uop u).In := by
  cases u with
  | K => show (⟨#[]⟩ : ByteArray).size ≤ _; exact Nat.zero_le _
  | R => show (⟨#[]⟩ : ByteArray).size ≤ _; exact Nat.zero_le _
  | I z =>
    have := (ptB_len z.toNat).2
    show (mk (ptB z.toNat)).size ≤ _
    rw [mk_size]
    omega
theorem cmp_len (a b : List U) : (cmp a b).length ≤ a.length + b.length := by
  induction a, b using cmp.induct <;> simp_all [cmp] <;> omega

/-- What composed is given and gives, as a word. -/
def cpW (A B : List OpD) : List U := cmp (uw (stR (jn (stR A)))) (uw (stR (jn (stR B))))
/-- What Compose gives. -/
def coR (A B : List OpD) : List OpD × Int :=
  if chk A = 0 then (if chk B = 0 then (if tsum (stR A) = bsum (stR B) then (jn (stR ((cpW A B).map uop)), chk ((cpW A B).map uop)) else ([], 91)) else ([], chk B)) else ([], chk A)

set_option maxRecDepth 20000 in
set_option maxHeartbeats 2000000 in
theorem compose_any (vA vB : Value) (A B : List OpD) (w : World) (hA : RdD w vA A) (hB : RdD w vB B) (mA : A.length ≤ maxLen) (mB : B.length ≤ maxLen) (iA : ∀ o ∈ A, o.In) (iB : ∀ o ∈ B, o.In) :
    Calls Try.prog 10 #[vA, vB] w fun e w' => ∃ u, e = .returned (.tuple #[u, .int .i64 (coR A B).2]) ∧ w'.ownsRow w.heap.size 50 3 u (coR A B).1.length (ocs (coR A B).1) ∧ Below w.heap.size w w' := by
  by_cases c : chk A = 0 ∧ chk B = 0
  · obtain ⟨c1, c2⟩ := c
    have hC := normals_ok vA vB A B w hA hB mA mB iA iB c1 c2
    have okA := stR_ok iA
    have okB := stR_ok iB
    have bdA := stR_bd A
    have bdB := stR_bd B
    obtain ⟨a1, a2, a3, a4, a5⟩ := normal_facts okA bdA.1 bdA.2
    obtain ⟨b1, b2, b3, b4, b5⟩ := normal_facts okB bdB.1 bdB.2
    have jA := jn_in okA bdA.1 bdA.2
    have jB := jn_in okB bdB.1 bdB.2
    have HA := kstR_op a1
    have HB := kstR_op b1
    have oA := stR_ok jA.2
    have oB := stR_ok jB.2
    have HCo : Hid (coR A B = if tsum (stR A) = bsum (stR B) then (jn (stR ((cpW A B).map uop)), chk ((cpW A B).map uop)) else ([], 91)) := by show _ = _; rw [coR, if_pos c1, if_pos c2]
    have HW : Hid (cpW A B = cmp (uw (stR (jn (stR A)))) (uw (stR (jn (stR B))))) := rfl
    generalize jn (stR A) = NA at *
    generalize jn (stR B) = NB at *
    clear a2 a3 b2 b3 c1 c2 hA hB mA mB iA iB okA okB
    go_enter Try.func10, Try.ntmps10
    go_wp2_with fail
    refine hC.mono ?_
    rintro e w1 ⟨uA, uB, rfl, hoA, hoB, hap, hb1⟩
    have hT := target_any uA NA w1 (rdd_own hoA) (by have := jA.1; unfold maxLen; omega) jA.2
    rw [a1, a5] at hT
    clear hC
    go_wp2_with fail
    refine hT.mono ?_
    rintro e w2 ⟨rfl, hb2⟩
    have hS := base_any uB NB w2 ((rdd_own hoB).below hb2) (by have := jB.1; unfold maxLen; omega) jB.2
    rw [b1, b4] at hS
    clear hT
    go_wp2_with fail
    refine hS.mono ?_
    rintro e w3 ⟨rfl, hb3⟩
    clear hS
    by_cases ct : tsum (stR A) = bsum (stR B)
    · have ct' : ((tsum (stR A) : Int) != (bsum (stR B) : Int)) = false := by simp [ct]
      have hs2 := hb2.size
      have hs3 := hb3.size
      have hK := composed_any uA uB (stR NA) (stR NB) w3 (by rw [HA]; exact ((rdd_own hoA).below hb2).below hb3) (by rw [HB]; exact ((rdd_own hoB).below hb2).below hb3)
        (fun g e => by have := (hoA.lt g e).2; omega) (fun g e => by have := (hoB.lt g e).2; omega) hap
        (fun s hs => ⟨oA s hs, by have := c_le hs; omega⟩) (fun s hs => ⟨oB s hs, by have := c_le hs; omega⟩)
        (by
          have l1 := len_uw (uw (stR NA))
          have l2 := len_uw (uw (stR NB))
          rw [base_uw, tgt_uw] at l1 l2
          omega)
        (by rw [tgt_uw, base_uw, a5, b4, ct])
      have hlen : (cmp (uw (stR NA)) (uw (stR NB))).length ≤ 4000 := by
        have l1 := len_uw (uw (stR NA))
        have l2 := len_uw (uw (stR NB))
        have l3 := cmp_len (uw (stR NA)) (uw (stR NB))
        rw [base_uw, tgt_uw] at l1 l2
        omega
      rw [← HW.out] at hK hlen
      have HCT : Hid (tsum (stR A) = bsum (stR B)) := ct
      clear ct HA HB a4 a5 b4 b5 a1 b1
      generalize cpW A B = C at *
      go_wp2_with fail
      refine hK.mono ?_
      rintro e w4 ⟨u4, rfl, ho4, hb4⟩
      have ho4' : w4.ownsRow w3.heap.size 50 3 u4 (C.map uop).length (ocs (C.map uop)) := by rw [List.length_map]; exact ho4
      have hN := normal_any u4 (C.map uop) w4 (rdd_own ho4') (by rw [List.length_map]; unfold maxLen; omega) (fun o ho => by obtain ⟨u, _, rfl⟩ := List.mem_map.1 ho; exact uop_in u)
      clear hK ho4
      go_wp2_with fail
      refine hN.mono ?_
      rintro e w5 ⟨u5, rfl, ho5, hb5⟩
      clear hN
      go_wp2_with fail
      go_ret2
      rw [HCo.out, if_pos HCT.out]
      have hs4 := hb4.size
      have hs1 := hb1.size
      exact ⟨_, rfl, own_lower ho5 (by omega), (((hb1.trans (hb2.mono hs1)).trans (hb3.mono (by omega))).trans (hb4.mono (by omega))).trans (hb5.mono (by omega))⟩
    · have ct' : ((tsum (stR A) : Int) != (bsum (stR B) : Int)) = true := by simp; omega
      go_wp2_with fail
      go_ret2
      rw [HCo.out, if_neg ct]
      exact ⟨_, rfl, World.ownsRow_nil _ _ _ _, (hb1.trans (hb2.mono hb1.size)).trans (hb3.mono (Nat.le_trans hb1.size hb2.size))⟩
  · have hC := normals_bad vA vB A B w hA hB mA mB iA iB c
    have hco : coR A B = ([], if chk A = 0 then chk B else chk A) := by
      rw [coR]
      by_cases h1 : chk A = 0
      · rw [if_pos h1, if_neg (fun h => c ⟨h1, h⟩), if_pos h1]
      · rw [if_neg h1, if_neg h1]
    have hne : ((if chk A = 0 then chk B else chk A) != 0) = true := by
      split
      · rename_i h1; simp; exact fun h => c ⟨h1, h⟩
      · rename_i h1; simpa using h1
    rw [hco]
    generalize (if chk A = 0 then chk B else chk A) = er at *
    clear hco
    go_enter Try.func10, Try.ntmps10
    go_wp2_with fail
    refine hC.mono ?_
    rintro e w1 ⟨rfl, hb1⟩
    go_wp2_with fail
    go_ret2
    exact ⟨_, rfl, World.ownsRow_nil _ _ _ _, hb1⟩
end Go.Proofs.Ytphbjbigjpfjfaa

/-
  The marks of a and then b are b's, with a's in the places of those that b keeps. No walk.
-/
namespace Go.Proofs.Ytphbjbigjpfjfaa
open Go.RowKit Go.PlainAid

/-- What b makes of a row of marks. -/
def sb : List (Nat ⊕ Int) → List U → List (Nat ⊕ Int)
  | _, [] => []
  | ma, .I z :: b => .inr z :: sb ma b
  | m :: ma, .K :: b => m :: sb ma b
  | _ :: ma, .R :: b => sb ma b
  | [], .K :: _ => []
  | [], .R :: _ => []

theorem tgt_marks : ∀ (l : List U) (i : Nat), (mkU i l).length = tgtU l
  | [], _ => rfl
  | .K :: l, i => by rw [mkU, List.length_cons, tgt_marks l]; rfl
  | .R :: l, i => by rw [mkU, tgt_marks l]; rfl
  | .I z :: l, i => by rw [mkU, List.length_cons, tgt_marks l]; rfl

theorem both_nil {x y : List U} (e1 : ∀ a, ¬ x = U.R :: a) (e2 : ∀ z b, x = [] → ¬ y = U.I z :: b) (e3 : ∀ a z b, x = U.K :: a → ¬ y = U.I z :: b) (e4 : ∀ w a z b, x = U.I w :: a → ¬ y = U.I z :: b)
    (e5 : ∀ a b, x = U.K :: a → ¬ y = U.K :: b) (e6 : ∀ z a b, x = U.I z :: a → ¬ y = U.K :: b) (e7 : ∀ a b, x = U.K :: a → ¬ y = U.R :: b) (e8 : ∀ z a b, x = U.I z :: a → ¬ y = U.R :: b) (h : tgtU x = baseU y) : x = [] ∧ y = [] := by
  rcases x with _ | ⟨u, a⟩
  · rcases y with _ | ⟨v, b⟩
    · exact ⟨rfl, rfl⟩
    · cases v with
      | K => simp only [tgtU, baseU] at h; omega
      | R => simp only [tgtU, baseU] at h; omega
      | I z => exact absurd rfl (e2 z b rfl)
  · cases u with
    | R => exact absurd rfl (e1 a)
    | K =>
      rcases y with _ | ⟨v, b⟩
      · simp only [tgtU, baseU] at h; omega
      · cases v with
        | K => exact absurd rfl (e5 a b rfl)
        | R => exact absurd rfl (e7 a b rfl)
        | I z => exact absurd rfl (e3 a z b rfl)
    | I w =>
      rcases y with _ | ⟨v, b⟩
      · simp only [tgtU, baseU] at h; omega
      · cases v with
        | K => exact absurd rfl (e6 w a b rfl)
        | R => exact absurd rfl (e8 w a b rfl)
        | I z => exact absurd rfl (e4 w a z b rfl)

theorem cmp_sb (a b : List U) : ∀ i, tgtU a = baseU b → mkU i (cmp a b) = sb (mkU i a) b := by
  induction a, b using cmp.induct <;> intro i h <;> simp_all [cmp, mkU, sb, tgtU, baseU]
  all_goals first | (rename_i ih; exact ih _ (by omega)) | (rename_i x y e1 e2 e3 e4 e5 e6 e7 e8; obtain ⟨rfl, rfl⟩ := both_nil e1 e2 e3 e4 e5 e6 e7 e8 h; rfl)
theorem cmp_base (a b : List U) : tgtU a = baseU b → baseU (cmp a b) = baseU a := by
  induction a, b using cmp.induct <;> intro h <;> simp_all [cmp, tgtU, baseU]
  all_goals first | (rename_i ih; exact ih (by omega)) | (rename_i x y e1 e2 e3 e4 e5 e6 e7 e8; obtain ⟨rfl, rfl⟩ := both_nil e1 e2 e3 e4 e5 e6 e7 e8 h; rfl)
theorem cmp_tgt (a b : List U) : tgtU a = baseU b → tgtU (cmp a b) = tgtU b := by
  induction a, b using cmp.induct <;> intro h <;> simp_all [cmp, tgtU, baseU]
  all_goals first | (rename_i ih; exact ih (by omega)) | (rename_i x y e1 e2 e3 e4 e5 e6 e7 e8; obtain ⟨rfl, rfl⟩ := both_nil e1 e2 e3 e4 e5 e6 e7 e8 h; rfl)

/-- A mark, with the mark that stands there. -/
def sub (ma : List (Nat ⊕ Int)) : Nat ⊕ Int → Nat ⊕ Int
  | .inl j => ma.getD j (.inr 0)
  | .inr z => .inr z
theorem sb_sub (ma : List (Nat ⊕ Int)) : ∀ (b : List U) (k : Nat), k + baseU b ≤ ma.length → sb (ma.drop k) b = (mkU k b).map (sub ma)
  | [], k, _ => by simp [sb, mkU]
  | .I z :: b, k, h => by
    have := sb_sub ma b k (by simpa [baseU] using h)
    simp [sb, mkU, sub, this]
  | .K :: b, k, h => by
    simp only [baseU] at h
    have := sb_sub ma b (k + 1) (by omega)
    rw [List.drop_eq_getElem_cons (by omega), sb, this, mkU]
    simp [sub, List.getD_eq_getElem?_getD, List.getElem?_eq_getElem (show k < ma.length by omega)]
  | .R :: b, k, h => by
    simp only [baseU] at h
    have := sb_sub ma b (k + 1) (by omega)
    rw [List.drop_eq_getElem_cons (by omega), sb, this, mkU]
/-- The marks of a and then b. -/
theorem cmp_marks (a b : List U) (i : Nat) (h : tgtU a = baseU b) : mkU i (cmp a b) = (mkU 0 b).map (sub (mkU i a)) := by
  rw [cmp_sb a b i h, ← sb_sub (mkU i a) b 0 (by rw [tgt_marks]; omega), List.drop_zero]

theorem marks_lt : ∀ (l : List U) (k j : Nat), Sum.inl j ∈ mkU k l → j < k + baseU l
  | [], _, _, h => by simp [mkU] at h
  | .K :: l, k, j, h => by
    simp only [mkU, List.mem_cons] at h
    rcases h with h | h
    · cases h; simp only [baseU]; omega
    · have := marks_lt l _ _ h; simp only [baseU]; omega
  | .R :: l, k, j, h => by
    have := marks_lt l _ _ (by simpa [mkU] using h); simp only [baseU]; omega
  | .I z :: l, k, j, h => by
    simp only [mkU, List.mem_cons, reduceCtorEq, false_or] at h
    have := marks_lt l _ _ h; simp only [baseU]; omega
/-- From the left or from the right: the same marks, the same base. -/
theorem cmp_assoc (a b c : List U) (h1 : tgtU a = baseU b) (h2 : tgtU b = baseU c) : Eqv (cmp (cmp a b) c) (cmp a (cmp b c)) := by
  have hb1 := cmp_base a b h1
  have hb2 := cmp_base b c h2
  have ht1 := cmp_tgt a b h1
  refine ⟨?_, fun i => ?_⟩
  · rw [cmp_base (cmp a b) c (by rw [ht1, h2]), cmp_base a (cmp b c) (by rw [h1, hb2]), hb1]
  · rw [cmp_marks (cmp a b) c i (by rw [ht1, h2]), cmp_marks a b i h1, cmp_marks a (cmp b c) i (by rw [h1, hb2]), cmp_marks b c 0 h2, List.map_map]
    refine List.map_congr_left (fun m hm => ?_)
    cases m with
    | inr z => rfl
    | inl j =>
      have hj := marks_lt c 0 j hm
      have hl : j < (mkU 0 b).length := by rw [tgt_marks]; omega
      simp only [Function.comp, sub, List.getD_eq_getElem?_getD, List.getElem?_map, List.getElem?_eq_getElem hl, Option.map_some, Option.getD_some]
end Go.Proofs.Ytphbjbigjpfjfaa

/-
  What Compose gives, as a word. No walk.
-/
namespace Go.Proofs.Ytphbjbigjpfjfaa
open Go.RowKit Go.PlainAid

def psU : U → PS
  | .K => .keep 1
  | .R => .rem 1
  | .I z => .ins [z]
theorem uop_ps (u : U) : uop u = (psU u).op := by
  cases u with
  | K => rfl
  | R => rfl
  | I z => simp [uop, psU, PS.op, PS.st, St.op, enc]
theorem pw_psU : ∀ C : List U, pw (C.map psU) = C
  | [] => rfl
  | u :: C => by
    rw [List.map_cons, pw_cons, pw_psU C]
    cases u <;> rfl
theorem pts_cmp (a b : List U) : PtsU a → PtsU b → PtsU (cmp a b) := by
  induction a, b using cmp.induct <;> intro ha hb <;> simp_all [cmp, PtsU]
theorem psU_ok {C : List U} (h : PtsU C) : ∀ s ∈ C.map psU, s.Ok := by
  intro s hs
  obtain ⟨u, hu, rfl⟩ := List.mem_map.1 hs
  cases u with
  | K => simp [psU, PS.Ok]
  | R => simp [psU, PS.Ok]
  | I z =>
    have hz : szI z ≠ 0 := h z hu
    exact ⟨by simp, fun y hy => by simp at hy; rw [hy]; exact hz⟩
/-- Single operations of a word are a delta, with that word. -/
theorem uops {C : List U} (h : PtsU C) (h1 : baseU C ≤ 1000) (h2 : tgtU C ≤ 1000) : chk (C.map uop) = 0 ∧ uw (stR (C.map uop)) = C := by
  have e : C.map uop = (C.map psU).map PS.op := by rw [List.map_map]; exact List.map_congr_left (fun u _ => uop_ps u)
  have hk := psU_ok h
  have ht : targU C = tgtU C := by rw [targU, tgt_targ]
  have := chk_ps hk (by rw [pw_psU]; exact h1) (by rw [pw_psU, ht]; exact h2)
  rw [e]
  exact ⟨this.1, by rw [this.2, uw_st hk, pw_psU]⟩

/-- Where Compose gives a delta: its error is 0, and its word is a's and then b's. -/
theorem coR_ok {A B : List OpD} (iA : ∀ o ∈ A, o.In) (iB : ∀ o ∈ B, o.In) (c1 : chk A = 0) (c2 : chk B = 0) (ct : tsum (stR A) = bsum (stR B)) :
    (coR A B).2 = 0 ∧ (coR A B).1 = jn (stR ((cpW A B).map uop)) ∧ uw (stR ((cpW A B).map uop)) = cpW A B ∧ baseU (cpW A B) = bsum (stR A) ∧ tgtU (cpW A B) = tsum (stR B) := by
  have okA := stR_ok iA
  have okB := stR_ok iB
  have bdA := stR_bd A
  have bdB := stR_bd B
  obtain ⟨a1, a2, a3, a4, a5⟩ := normal_facts okA bdA.1 bdA.2
  obtain ⟨b1, b2, b3, b4, b5⟩ := normal_facts okB bdB.1 bdB.2
  have jA := jn_in okA bdA.1 bdA.2
  have jB := jn_in okB bdB.1 bdB.2
  have ht : tgtU (uw (stR (jn (stR A)))) = baseU (uw (stR (jn (stR B)))) := by rw [tgt_uw, base_uw, a5, b4, ct]
  have hb : baseU (cpW A B) = bsum (stR A) := by rw [cpW, cmp_base _ _ ht, base_uw, a4]
  have hg : tgtU (cpW A B) = tsum (stR B) := by rw [cpW, cmp_tgt _ _ ht, tgt_uw, b5]
  have hp : PtsU (cpW A B) := pts_cmp _ _ (ptsU_uw (stR_ok jA.2)) (ptsU_uw (stR_ok jB.2))
  obtain ⟨u1, u2⟩ := uops hp (by rw [hb]; exact bdA.1) (by rw [hg]; exact bdB.2)
  have e : coR A B = (jn (stR ((cpW A B).map uop)), chk ((cpW A B).map uop)) := by rw [coR, if_pos c1, if_pos c2, if_pos ct]
  rw [e]
  exact ⟨u1, rfl, u2, hb, hg⟩
end Go.Proofs.Ytphbjbigjpfjfaa

/-
  Three deltas put together from the left or from the right. No walk.
-/
namespace Go.Proofs.Ytphbjbigjpfjfaa
open Go.RowKit Go.PlainAid

theorem eqv_tgt {a b : List U} (h : Eqv a b) : tgtU a = tgtU b := by rw [← tgt_targ a 0, ← tgt_targ b 0, h.2]
theorem cmp_eqv {a a' b b' : List U} (h1 : Eqv a a') (h2 : Eqv b b') (h : tgtU a = baseU b) : Eqv (cmp a b) (cmp a' b') := by
  have h' : tgtU a' = baseU b' := by rw [← eqv_tgt h1, h, h2.1]
  refine ⟨?_, fun i => ?_⟩
  · rw [cmp_base a b h, cmp_base a' b' h', h1.1]
  · rw [cmp_marks a b i h, cmp_marks a' b' i h', h1.2, h2.2]
theorem coR_zero {A B : List OpD} (h : (coR A B).2 = 0) : chk A = 0 ∧ chk B = 0 ∧ tsum (stR A) = bsum (stR B) := by
  rw [coR] at h
  split at h
  · rename_i c1
    split at h
    · rename_i c2
      split at h
      · rename_i c3; exact ⟨c1, c2, c3⟩
      · simp at h
    · rename_i c2; exact absurd h c2
  · rename_i c1; exact absurd h c1

/-- What Compose gave, as one of a pair. -/
theorem co_facts {A B : List OpD} (iA : ∀ o ∈ A, o.In) (iB : ∀ o ∈ B, o.In) (h : (coR A B).2 = 0) :
    (∀ o ∈ (coR A B).1, o.In) ∧ chk (coR A B).1 = 0 ∧ jn (stR (coR A B).1) = (coR A B).1 ∧ Eqv (uw (stR (coR A B).1)) (cpW A B) ∧ bsum (stR (coR A B).1) = bsum (stR A) ∧ tsum (stR (coR A B).1) = tsum (stR B) := by
  obtain ⟨c1, c2, ct⟩ := coR_zero h
  obtain ⟨k1, k2, k3, k4, k5⟩ := coR_ok iA iB c1 c2 ct
  have hok : ∀ s ∈ stR ((cpW A B).map uop), s.Ok := stR_ok (fun o ho => by obtain ⟨u, _, rfl⟩ := List.mem_map.1 ho; exact uop_in u)
  have bd := stR_bd ((cpW A B).map uop)
  obtain ⟨n1, n2, n3, n4, n5⟩ := normal_facts hok bd.1 bd.2
  have hb : bsum (stR ((cpW A B).map uop)) = bsum (stR A) := by rw [← base_uw, k3, k4]
  have ht : tsum (stR ((cpW A B).map uop)) = tsum (stR B) := by rw [← tgt_uw, k3, k5]
  rw [k2]
  refine ⟨(jn_in hok bd.1 bd.2).2, n1, n2, ?_, by rw [n4, hb], by rw [n5, ht]⟩
  rw [k3] at n3
  exact n3

theorem jn_eqv {l l' : List St} (h1 : ∀ s ∈ l, s.Ok) (h2 : ∀ s ∈ l', s.Ok) (h : Eqv (uw l) (uw l')) : jn l = jn l' := by
  rw [jn_eq h1, jn_eq h2, nf_of_marks h.1 (h.2 0)]

theorem joins {A B C : List OpD} (iA : ∀ o ∈ A, o.In) (iB : ∀ o ∈ B, o.In) (iC : ∀ o ∈ C, o.In) (h1 : (coR A B).2 = 0) (h2 : (coR B C).2 = 0) :
    (coR (coR A B).1 C).2 = 0 ∧ (coR A (coR B C).1).2 = 0 ∧ (coR (coR A B).1 C).1 = (coR A (coR B C).1).1 := by
  obtain ⟨a1, a2, a3⟩ := coR_zero h1
  obtain ⟨b1, b2, b3⟩ := coR_zero h2
  obtain ⟨x0, x1, x2, x3, x4, x5⟩ := co_facts iA iB h1
  obtain ⟨y0, y1, y2, y3, y4, y5⟩ := co_facts iB iC h2
  have l := coR_ok x0 iC x1 b2 (by rw [x5, b3])
  have r := coR_ok iA y0 a1 y1 (by rw [a3, y4])
  refine ⟨l.1, r.1, ?_⟩
  rw [l.2.1, r.2.1]
  have hu : ∀ D : List U, ∀ s ∈ stR (D.map uop), s.Ok := fun D => stR_ok (fun o ho => by obtain ⟨u, _, rfl⟩ := List.mem_map.1 ho; exact uop_in u)
  refine jn_eqv (hu _) (hu _) ?_
  rw [l.2.2.1, r.2.2.1]
  have okA := stR_ok iA
  have okB := stR_ok iB
  have okC := stR_ok iC
  obtain ⟨_, _, _, _, n5⟩ := normal_facts okA (stR_bd A).1 (stR_bd A).2
  obtain ⟨_, _, _, m4, m5⟩ := normal_facts okB (stR_bd B).1 (stR_bd B).2
  obtain ⟨_, _, _, o4, _⟩ := normal_facts okC (stR_bd C).1 (stR_bd C).2
  have hAB : tgtU (uw (stR (jn (stR A)))) = baseU (uw (stR (jn (stR B)))) := by rw [tgt_uw, base_uw, n5, m4, a3]
  have hBC : tgtU (uw (stR (jn (stR B)))) = baseU (uw (stR (jn (stR C)))) := by rw [tgt_uw, base_uw, m5, o4, b3]
  have e1 : Eqv (cpW (coR A B).1 C) (cmp (cmp (uw (stR (jn (stR A)))) (uw (stR (jn (stR B))))) (uw (stR (jn (stR C))))) := by
    rw [cpW, x2]
    exact cmp_eqv x3 ⟨rfl, fun _ => rfl⟩ (by rw [tgt_uw, base_uw, x5, o4, b3])
  have e2 : Eqv (cpW A (coR B C).1) (cmp (uw (stR (jn (stR A)))) (cmp (uw (stR (jn (stR B)))) (uw (stR (jn (stR C)))))) := by
    rw [cpW, y2]
    exact cmp_eqv ⟨rfl, fun _ => rfl⟩ y3 (by rw [tgt_uw, base_uw, n5, y4, a3])
  have e3 := cmp_assoc _ _ _ hAB hBC
  exact ⟨e1.1.trans (e3.1.trans e2.1.symm), fun i => (e1.2 i).trans ((e3.2 i).trans (e2.2 i).symm)⟩
end Go.Proofs.Ytphbjbigjpfjfaa

/-
  The contract of withSome.
-/
namespace Go.Proofs.Ytphbjbigjpfjfaa
open Go.ChangeShapes Go.WideShapes Go.ChangeAt Go.RowKit Go.PlainAid

/-- Does an operation do something? -/
def OpD.does (o : OpD) : Bool := decide (0 < o.n) || decide (o.t.size ≠ 0)

/-- withSome on its way: the delta lies where it lay, or in a new block. -/
structure Ws (B : Nat) (w W : World) (d0 d : Value) (D : List OpD) : Prop where
  own : W.ownsRow B 50 3 d D.length (ocs D)
  only : Only d0.ownBlock.toList w W
  lies : ∀ g, d.ownBlock = some g → d0.ownBlock = some g ∨ w.heap.size ≤ g

theorem Ws.app {B : Nat} {w W W' : World} {d0 d : Value} {D : List OpD} {o : OpD} {x : Obj} {g cap : Nat} (h : Ws B w W d0 d D)
    (ho : W'.ownsRow B 50 3 (.slice (some ⟨g, 0, none⟩) (D.length + 1) cap) (D.length + 1) (ocs D ++ [Value.int .i64 o.k, .int .i64 o.n, .string o.t])) (hg : (W.alloc x).grownBy W' d.ownBlock) (hl : d.ownBlock = some g ∨ g = W.heap.size + 1) :
    Ws B w W' d0 (.slice (some ⟨g, 0, none⟩) (D.length + 1) cap) (D ++ [o]) := by
  have hO : Only d.ownBlock.toList W W' := (Only.alloc _ W x).trans (Only.of_grown hg (fun k e => by simp [e]))
  refine ⟨own_op ho rfl, h.only.new hO (fun i hi => ?_), fun g' e => ?_⟩
  · have := h.lies i (by simpa using hi)
    exact this.imp (fun e => by simp [e]) id
  · have e' : g = g' := by simpa [Value.ownBlock] using e
    subst e'
    rcases hl with hl | hl
    · exact h.lies g hl
    · have := h.only.size; exact .inr (by omega)

theorem many_newT (wr : World) (X : Obj) (l : List Value) (e : Nat) : ∀ j u, l[j]? = some u → ((wr.alloc X).alloc (.cells l.toArray e)).cell? ((⟨wr.heap.size + 1, 0, none⟩ : Addr).add j) = some u := by
  have := many_new (wr.alloc X) l e
  rw [World.size_alloc] at this
  exact this

set_option maxRecDepth 20000 in
set_option maxHeartbeats 2000000 in
theorem withSome_any (B : Nat) (d v : Value) (D M : List OpD) (w : World) (hB : B ≤ w.heap.size) (hd : w.ownsRow B 50 3 d D.length (ocs D)) (hr : RdD w v M) (hap : ∀ g, v.ownBlock = some g → d.ownBlock ≠ some g) (hD : D.length ≤ 100000) (hM : M.length ≤ 1000) :
    Calls Try.prog 53 #[d, v] w fun e w' => ∃ u, e = .returned u ∧ Ws B w w' d u (D ++ M.filter OpD.does) := by
  obtain ⟨i0, hin, hz0, hz1, hz2⟩ := info_parts Try.infoOp
  have hW : Ws B w w d d D := ⟨hd, Only.refl _ _, fun g e => .inl e⟩
  have hrd : ∀ W, Only d.ownBlock.toList w W → RdD W v M := fun W ho => rdd_only hr ho (fun g e hm => hap g e (by simpa using hm))
  obtain ⟨ao, cp, rfl, _⟩ := id hr
  go_enter Try.func53, Try.ntmps53
  go_wp2_with fail
  go_loopw [0, 6, 9] (fun u _ i wr => ∃ k : Nat, k ≤ M.length ∧ i = .int .i64 (k : Int) ∧ Ws B w wr d u (D ++ (M.take k).filter OpD.does)) (fun _ _ i _ => M.length - (intOf i).toNat)
  case atStart => exact ⟨0, by omega, rfl, by simpa using hW⟩
  case round =>
    obtain ⟨k, hk, rfl, hw⟩ := hrel
    by_cases c : k < M.length
    · have c' : (k : Int) < (M.length : Int) := by omega
      obtain ⟨_, _, e1, _, hcs⟩ := hrd wr hw.only
      obtain ⟨b, off, e2, hb, c0, c1, c2⟩ := hcs k M[k] (by simp [c])
      simp at e1
      obtain ⟨rfl, rfl⟩ := e1
      subst e2
      clear hcs
      have HF : Hid ((M.take (k + 1)).filter OpD.does = (M.take k).filter OpD.does ++ (if M[k].does then [M[k]] else [])) := by
        show _ = _
        rw [List.take_succ_eq_append_getElem c, List.filter_append]
        congr 1
        by_cases h : M[k].does <;> simp [h]
      have hlen : ((M.take k).filter OpD.does).length ≤ 1000 := Nat.le_trans (List.length_filter_le _ _) (by rw [List.length_take]; omega)
      have hLl : (D ++ (M.take k).filter OpD.does).length ≤ 101000 := by rw [List.length_append]; omega
      generalize hML : M[k] = o at *
      clear hML
      have hFF : Hid (D ++ (M.take (k + 1)).filter OpD.does = (D ++ (M.take k).filter OpD.does) ++ (if o.does then [o] else [])) := by show _ = _; rw [HF.out, List.append_assoc]
      clear HF hlen
      generalize D ++ (M.take k).filter OpD.does = L at *
      obtain ⟨ao5, cp5, rfl⟩ := own_form hw.own
      have hV : Ws B w (wr.alloc (.cells #[.int .i64 o.k, .int .i64 o.n, .string o.t] 50)) d (.slice ao5 L.length cp5) L := ⟨hw.own.alloc _, hw.only.trans (Only.alloc _ _ _), hw.lies⟩
      clear hr hrd hW hw hap
      by_cases p1 : 0 < o.n
      · have HP : Hid (o.does = true) := by show _ = _; simp [OpD.does, p1]
        go_wp2_with (at_builtin; refine wpList_append_lies _ rfl (.tmp 21) (.tmp 23) 22 rfl B 50 i0 (.agg #[.int .i64 0, .int .i64 0, .string ⟨#[]⟩]) 3 32 Try.underlying22 hin hz0 hz1 hz2 rfl (by decide) (.slice ao5 L.length cp5) L.length (ocs L) rfl (hV.own.alloc _) ⟨_, 0, none⟩ 1 1 [.int .i64 o.k, .int .i64 o.n, .string o.t] rfl rfl (many_newT _ _ _ _) (three_one _ _ _) (by decide) (by unfold maxLen; omega) (by omega) (by have := hV.only.size; simp at this ⊢; omega) _ rfl ?_; intro g9 c9 w9 ho9 hg9 hl9 _; have hZ := hV.app (o := o) ho9 hg9 (hl9.imp id (fun e => by rw [e, World.size_alloc])); clear ho9 hg9 hl9)
        refine ⟨⟨k + 1, by omega, by go_num, ?_⟩, by simp only [intOf]; omega⟩
        rw [hFF.out, if_pos HP.out]
        exact hZ
      · by_cases p2 : o.t.size = 0
        · have HP : Hid (¬ o.does = true) := by show ¬ _; simp [OpD.does, p1, p2]
          have p3 : o.t = ⟨#[]⟩ := empty_eq p2
          have hV2 := hV
          rw [p3] at hV2
          go_wp2_with fail
          refine ⟨⟨k + 1, by omega, by go_num, ?_⟩, by simp only [intOf]; omega⟩
          rw [hFF.out, if_neg HP.out, List.append_nil]
          exact hV2
        · have HP : Hid (o.does = true) := by show _ = _; simp [OpD.does, p2]
          have p3 := empty_ff p2
          go_wp2_with (at_builtin; refine wpList_append_lies _ rfl (.tmp 21) (.tmp 23) 22 rfl B 50 i0 (.agg #[.int .i64 0, .int .i64 0, .string ⟨#[]⟩]) 3 32 Try.underlying22 hin hz0 hz1 hz2 rfl (by decide) (.slice ao5 L.length cp5) L.length (ocs L) rfl (hV.own.alloc _) ⟨_, 0, none⟩ 1 1 [.int .i64 o.k, .int .i64 o.n, .string o.t] rfl rfl (many_newT _ _ _ _) (three_one _ _ _) (by decide) (by unfold maxLen; omega) (by omega) (by have := hV.only.size; simp at this ⊢; omega) _ rfl ?_; intro g9 c9 w9 ho9 hg9 hl9 _; have hZ := hV.app (o := o) ho9 hg9 (hl9.imp id (fun e => by rw [e, World.size_alloc])); clear ho9 hg9 hl9)
          refine ⟨⟨k + 1, by omega, by go_num, ?_⟩, by simp only [intOf]; omega⟩
          rw [hFF.out, if_pos HP.out]
          exact hZ
    · obtain rfl : k = M.length := by omega
      go_wp2_with fail
      go_ret
      refine ⟨_, rfl, ?_⟩
      rw [List.take_length] at hw
      exact hw
end Go.Proofs.Ytphbjbigjpfjfaa

/-
  A map from numbers below N to rows of bytes, as the maps' kit reads it (Map, without sectors). No program.
-/
namespace Go.Proofs.Ytphbjbigjpfjfaa
open Go.Maps Go.WideShapes

abbrev Sec := List UInt8

/-! ### The datum of a map -/

abbrev SecF := Nat → Option Sec

def entF (f : SecF) (i : Nat) : Option (Lit × DataW Unit) := (f i).map fun s => (Lit.int .i64 (i : Int), DataW.lit (.string s))

/-- The datum of the map that has f's sectors below N. -/
def DF (N : Nat) (f : SecF) : DataW Unit := .map ((List.range N).filterMap (entF f))

theorem entF_some {f : SecF} {i : Nat} {p : Lit × DataW Unit} (h : entF f i = some p) : ∃ s, f i = some s ∧ p = (.int .i64 (i : Int), .lit (.string s)) := by
  unfold entF at h
  cases hf : f i with
  | none => simp [hf] at h
  | some s => simp [hf] at h; exact ⟨s, rfl, h.symm⟩

theorem mem_DF {N : Nat} {f : SecF} {p : Lit × DataW Unit} : p ∈ (List.range N).filterMap (entF f) ↔ ∃ i s, i < N ∧ f i = some s ∧ p = (.int .i64 (i : Int), .lit (.string s)) := by
  rw [List.mem_filterMap]
  constructor
  · rintro ⟨i, hi, he⟩
    obtain ⟨s, hs, hp⟩ := entF_some he
    exact ⟨i, s, List.mem_range.1 hi, hs, hp⟩
  · rintro ⟨i, s, hi, hs, rfl⟩
    exact ⟨i, List.mem_range.2 hi, by simp [entF, hs]⟩

theorem canon_DF (N : Nat) (f : SecF) : Canon (DF N f) := by
  refine ⟨_, rfl, ?_, fun p hp => ?_⟩
  · rw [List.pairwise_filterMap]
    refine List.Pairwise.imp ?_ (List.pairwise_lt_range (n := N))
    intro i j hij p hp q hq
    obtain ⟨s, _, rfl⟩ := entF_some hp
    obtain ⟨t, _, rfl⟩ := entF_some hq
    simp only [Lit.before, decide_eq_true_eq]
    omega
  · obtain ⟨i, s, _, _, rfl⟩ := mem_DF.1 hp
    trivial

theorem key_mk (i : Int) : WideAt.IsKeyLit (.int .i64 i) := trivial

theorem has_DF (N : Nat) (f : SecF) (k : Lit) : has (DF N f) k = true ↔ ∃ i s, i < N ∧ f i = some s ∧ k = .int .i64 (i : Int) := by
  unfold DF
  rw [has_eq, List.any_eq_true]
  constructor
  · rintro ⟨p, hp, hs⟩
    obtain ⟨i, s, hi, hf, rfl⟩ := mem_DF.1 hp
    exact ⟨i, s, hi, hf, (WideAt.sameKey_eq hs).symm⟩
  · rintro ⟨i, s, hi, hf, rfl⟩
    exact ⟨_, mem_DF.2 ⟨i, s, hi, hf, rfl⟩, WideAt.sameKey_self (key_mk _)⟩

theorem has_DF_at (N : Nat) (f : SecF) (i : Nat) : has (DF N f) (.int .i64 (i : Int)) = (decide (i < N) && (f i).isSome) := by
  rw [Bool.eq_iff_iff, has_DF]
  simp only [Bool.and_eq_true, decide_eq_true_eq]
  constructor
  · rintro ⟨j, s, hj, hf, he⟩
    simp only [Lit.int.injEq, true_and] at he
    have : i = j := by omega
    subst this
    exact ⟨hj, by simp [hf]⟩
  · rintro ⟨hi, hs⟩
    obtain ⟨s, hs⟩ := Option.isSome_iff_exists.1 hs
    exact ⟨i, s, hi, hs, rfl⟩

theorem not_has_DF (N : Nat) (f : SecF) {k : Int} (h : k < 0 ∨ (N : Int) ≤ k) : has (DF N f) (.int .i64 k) = false := by
  rw [Bool.eq_false_iff]
  intro hh
  obtain ⟨i, s, hi, _, he⟩ := (has_DF N f _).1 hh
  simp only [Lit.int.injEq, true_and] at he
  omega

theorem atKey_DF {N : Nat} {f : SecF} {i : Nat} {s : Sec} (hi : i < N) (hf : f i = some s) (z : DataW Unit) : (DF N f).atKey (.int .i64 (i : Int)) z = .lit (.string s) :=
  WideAt.atKey_mem z (key_mk _) (apart_of_rising (by obtain ⟨es, he, hp, _⟩ := canon_DF N f; cases he; exact hp)) (mem_DF.2 ⟨i, s, hi, hf, rfl⟩)

/-- f with s at k. -/
def putF (f : SecF) (k : Nat) (s : Sec) : SecF := fun i => if i = k then some s else f i

theorem isMap_DF (N : Nat) (f : SecF) : IsMap (DF N f) := ⟨_, rfl⟩

theorem oneI_total {a b : Lit} (ha : ∃ x, a = .int .i64 x) (hb : ∃ x, b = .int .i64 x) (hne : a ≠ b) : a.before b = true ∨ b.before a = true := by
  obtain ⟨x, rfl⟩ := ha
  obtain ⟨y, rfl⟩ := hb
  simp only [Lit.before, decide_eq_true_eq]
  have : x ≠ y := fun e => hne (by rw [e])
  omega
theorem oneI : OneKind (fun l : Lit => ∃ x, l = .int .i64 x) :=
  ⟨fun h => by obtain ⟨x, rfl⟩ := h; trivial, fun ha hb hne => oneI_total ha hb hne⟩

theorem canonK_DF (N : Nat) (f : SecF) : CanonK (fun l : Lit => ∃ x, l = .int .i64 x) (DF N f) := by
  obtain ⟨es, he, hp, _⟩ := canon_DF N f
  cases he
  exact ⟨_, rfl, hp, fun p hp => by obtain ⟨i, s, _, _, rfl⟩ := mem_DF.1 hp; exact ⟨_, rfl⟩⟩

theorem put_DF {N : Nat} {f : SecF} {k : Nat} (s : Sec) (hk : k < N) : (DF N f).put (.int .i64 (k : Int)) (.lit (.string s)) = DF N (putF f k s) := by
  refine Maps.ext ((canonK_put oneI ⟨_, rfl⟩ _ (canonK_DF N f)).canon oneI) (canon_DF _ _) (fun l => ?_) (fun l z h => ?_)
  · by_cases e : l = .int .i64 (k : Int)
    · subst e
      rw [has_put_same (isMap_DF N f) (key_mk _), has_DF_at]
      simp [hk, putF]
    · rw [has_put_other e, Bool.eq_iff_iff, has_DF, has_DF]
      constructor
      · rintro ⟨i, t, hi, hf, rfl⟩
        exact ⟨i, t, hi, by unfold putF; rw [if_neg (fun h => e (by rw [h]))]; exact hf, rfl⟩
      · rintro ⟨i, t, hi, hf, rfl⟩
        unfold putF at hf
        rw [if_neg (fun h => e (by rw [h]))] at hf
        exact ⟨i, t, hi, hf, rfl⟩
  · by_cases e : l = .int .i64 (k : Int)
    · subst e
      rw [atKey_put_same (isMap_DF N f) (key_mk _), atKey_DF hk (s := s) (by simp [putF])]
    · rw [has_put_other e, has_DF] at h
      obtain ⟨i, t, hi, hf, rfl⟩ := h
      rw [atKey_put_other e, atKey_DF hi hf, atKey_DF hi (s := t) (by unfold putF; rw [if_neg (fun h => e (by rw [h]))]; exact hf)]

/-- g's sectors over f's. -/
def orF (g f : SecF) : SecF := fun i => (g i).or (f i)

theorem merged_DF {N : Nat} {f g : SecF} {D : DataW Unit} {left : Lit → Bool} (hM : Merged D (DF N f) (DF N g) left) (hl : ∀ k, left k = false) (c : Canon D) : D = DF N (orF g f) := by
  refine Maps.ext c (canon_DF _ _) (fun l => ?_) (fun l z h => ?_)
  · rw [hM.1 l, hl l, Bool.eq_iff_iff]
    simp only [Bool.not_false, Bool.and_true, Bool.or_eq_true, has_DF]
    constructor
    · rintro (⟨i, s, hi, hf, rfl⟩ | ⟨i, s, hi, hf, rfl⟩)
      · cases hg : g i with
        | none => exact ⟨i, s, hi, by simp [orF, hg, hf], rfl⟩
        | some t => exact ⟨i, t, hi, by simp [orF, hg], rfl⟩
      · exact ⟨i, s, hi, by simp [orF, hf], rfl⟩
    · rintro ⟨i, s, hi, hf, rfl⟩
      cases hg : g i with
      | none => exact .inl ⟨i, s, hi, by simpa [orF, hg] using hf, rfl⟩
      | some t => exact .inr ⟨i, t, hi, hg, rfl⟩
  · have h2 := hM.2 l z
    rw [hl l] at h2
    simp only [Bool.not_false, Bool.and_true] at h2
    rw [hM.1 l, hl l] at h
    simp only [Bool.not_false, Bool.and_true, Bool.or_eq_true, has_DF] at h
    rw [h2]
    by_cases hg : has (DF N g) l = true
    · rw [if_pos hg]
      obtain ⟨i, s, hi, hf, rfl⟩ := (has_DF _ _ _).1 hg
      rw [atKey_DF hi hf, atKey_DF hi (s := s) (by simp [orF, hf])]
    · rw [if_neg hg]
      rcases h with ⟨i, s, hi, hf, rfl⟩ | h
      · have hn : g i = none := by
          cases hgi : g i with
          | none => rfl
          | some t => exact absurd ((has_DF _ _ _).2 ⟨i, t, hi, hgi, rfl⟩) hg
        rw [atKey_DF hi hf, atKey_DF hi (s := s) (by simp [orF, hf, hn])]
      · exact absurd ((has_DF _ _ _).2 h) hg

theorem DF_none (N : Nat) : DF N (fun _ => none) = .map [] := by
  unfold DF
  congr 1
  rw [List.filterMap_eq_nil_iff]
  intro i _
  rfl

theorem DF_congr {N : Nat} {f g : SecF} (h : ∀ i, i < N → f i = g i) : DF N f = DF N g := by
  have key : ∀ l : List Nat, (∀ i ∈ l, i < N) → l.filterMap (entF f) = l.filterMap (entF g) := by
    intro l
    induction l with
    | nil => intro _; rfl
    | cons i r ih =>
      intro hl
      have hi : entF f i = entF g i := by unfold entF; rw [h i (hl i (by simp))]
      rw [List.filterMap_cons, List.filterMap_cons, hi, ih (fun j hj => hl j (by simp [hj]))]
  unfold DF
  rw [key _ (fun i hi => List.mem_range.1 hi)]

theorem size_DF (N : Nat) (f : SecF) : Maps.size (DF N f) ≤ N := by
  unfold DF
  rw [size_eq]
  exact Nat.le_trans (List.length_filterMap_le _ _) (by simp)

/-- The numbers below N at which f has a sector, rising. -/
def keysF (N : Nat) (f : SecF) : List Nat := (List.range N).filter fun i => (f i).isSome

theorem intKeys_DF (N : Nat) (f : SecF) : intKeys (DF N f) = (keysF N f).map Int.ofNat := by
  unfold DF intKeys keysF
  induction List.range N with
  | nil => rfl
  | cons i r ih =>
    simp only at ih
    cases hf : f i with
    | none => simp [entF, hf] at ih ⊢; exact ih
    | some s => simp [entF, hf, Go.intOf] at ih ⊢; exact ih

theorem keysF_sorted (N : Nat) (f : SecF) : (keysF N f).Pairwise (· < ·) := (List.pairwise_lt_range (n := N)).filter _

theorem keysF_le (N : Nat) (f : SecF) : (keysF N f).length ≤ N := Nat.le_trans (List.length_filter_le _ _) (by simp)

theorem sorted_keys {N : Nat} {f : SecF} {ss : List Int} (h : ss.Perm (intKeys (DF N f))) : ss.mergeSort leI = (keysF N f).map Int.ofNat := by
  rw [mergeSort_of_perm_i h, intKeys_DF]
  refine List.mergeSort_of_pairwise ?_
  rw [List.pairwise_map]
  refine (keysF_sorted N f).imp ?_
  intro a b hab
  simp
  omega

theorem mem_keysF {N : Nat} {f : SecF} {i : Nat} : i ∈ keysF N f ↔ i < N ∧ (f i).isSome = true := by simp [keysF]
end Go.Proofs.Ytphbjbigjpfjfaa
