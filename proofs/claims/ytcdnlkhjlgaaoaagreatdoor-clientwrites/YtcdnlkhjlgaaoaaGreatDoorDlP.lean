/-
  The contracts of applied and Apply.
-/
import Derived.Test.YtcdnlkhjlgaaoaaGreatDoorDlJ
import Derived.Deep.RegionLaw
import Derived.Deep.AppendLies
import Derived.Deep.QuietTactic
import Derived.BigQuiet
namespace Go.Proofs.YtcdnlkhjlgaaoaaGreatDoor
open Go.ChangeShapes Go.WideShapes Go.ChangeAt Go.RowKit Go.PlainAid

/-- Numbers at a place, with room for as many. -/
def RdP (w : World) (v : Value) (zs : List Int) : Prop :=
  ∃ ao cp, v = .slice ao zs.length cp ∧ zs.length ≤ cp ∧ (0 < zs.length → ∃ b off, ao = some ⟨b, off, none⟩ ∧ b < w.heap.size ∧ ∀ i, i < zs.length → w.cell? ⟨b, off + i, none⟩ = some (.int .i64 (zs.getD i 0)))

theorem rdp_own {w : World} {base n : Nat} {v : Value} {zs : List Int} (h : w.ownsRow base 3 1 v n (iv zs)) : RdP w v zs := by
  have hl := h.1
  rw [iv_length] at hl
  rcases h.2 with ⟨rfl, h0⟩ | ⟨g, cap, cur, rfl, hb, hg, hn, _, hc, ht⟩
  · subst h0
    have : zs = [] := List.eq_nil_of_length_eq_zero (by omega)
    subst this
    exact ⟨none, 0, rfl, Nat.le_refl _, fun h => by simp at h⟩
  · refine ⟨_, cap, by rw [hl, Nat.mul_one], by omega, fun _ => ⟨g, 0, rfl, (h.lt g rfl).2, fun i hi => ?_⟩⟩
    have := h.cells (g := g) rfl i (.int .i64 (zs.getD i 0)) (by simp [iv, hi])
    have hadd : (⟨g, 0, none⟩ : Addr).add i = ⟨g, 0 + i, none⟩ := by unfold Addr.add; split <;> simp_all
    rw [hadd] at this
    exact this
theorem RdP.below {w w' : World} {v : Value} {zs : List Int} (h : RdP w v zs) (hb : Below w.heap.size w w') : RdP w' v zs := by
  obtain ⟨ao, cp, e, h0, h1⟩ := h
  refine ⟨ao, cp, e, h0, fun h => ?_⟩
  obtain ⟨b, off, e1, hl, c0⟩ := h1 h
  exact ⟨b, off, e1, Nat.lt_of_lt_of_le hl hb.size, fun i hi => (hb.cell (p := ⟨b, off + i, none⟩) hl).trans (c0 i hi)⟩

/-- The code points of a text. -/
def pts (t : ByteArray) : List Int := ptL t (cpl t).toNat
/-- What steps make of code points. -/
def apRun : List Int → List St → List Int
  | _, [] => []
  | zs, .keep n :: l => zs.take n ++ apRun (zs.drop n) l
  | zs, .rem n :: l => apRun (zs.drop n) l
  | zs, .ins t :: l => pts t ++ apRun zs l

theorem pts_len {t : ByteArray} (h : 0 ≤ cpl t) : ((pts t).length : Int) = cpl t := by rw [pts, ptL_length]; omega
theorem apRun_len : ∀ (l : List St) (zs : List Int), bsum l ≤ zs.length → (apRun zs l).length = tsum l
  | [], _, _ => by simp [apRun, tsum]
  | .keep n :: l, zs, h => by
    have e1 : bsum (.keep n :: l) = n + bsum l := by simp [bsum, St.b]
    have e2 : tsum (.keep n :: l) = n + tsum l := by simp [tsum, St.c]
    rw [e1] at h
    rw [e2, apRun, List.length_append, apRun_len l _ (by rw [List.length_drop]; omega), List.length_take]
    omega
  | .rem n :: l, zs, h => by
    have e1 : bsum (.rem n :: l) = n + bsum l := by simp [bsum, St.b]
    have e2 : tsum (.rem n :: l) = tsum l := by simp [tsum, St.c]
    rw [e1] at h
    rw [e2, apRun, apRun_len l _ (by rw [List.length_drop]; omega)]
  | .ins t :: l, zs, h => by
    have e1 : bsum (.ins t :: l) = bsum l := by simp [bsum, St.b]
    have e2 : tsum (.ins t :: l) = (cpl t).toNat + tsum l := by simp [tsum, St.c]
    rw [e1] at h
    rw [e2, apRun, List.length_append, apRun_len l _ h, pts, ptL_length]

theorem own_ints {w1 : World} {base n m : Nat} {v' : Value} {L M : List Int} (h : w1.ownsRow base 3 1 v' (n + m) (iv L ++ iv M)) (hn : L.length = n) (hm : M.length = m) :
    w1.ownsRow base 3 1 v' (L ++ M).length (iv (L ++ M)) := by
  subst hn; subst hm
  rw [iv_append, List.length_append]
  exact h
theorem iv_one (l : List Int) : ∀ u ∈ iv l, u.oneCell' = true := by
  intro u hu
  simp only [iv, List.mem_map] at hu
  obtain ⟨x, _, rfl⟩ := hu
  rfl

theorem points_any (t : ByteArray) (w : World) (hs : t.size ≤ 8796093022208) (h : 0 ≤ cpl t) :
    Calls Tryz.prog 92 #[.string t] w fun e w' => ∃ v, e = .returned (.tuple #[v, .bool true]) ∧ w'.ownsRow w.heap.size 3 1 v (pts t).length (iv (pts t)) ∧ Below w.heap.size w w' := by
  have := points_ok t _ w hs (cpl_valid h)
  rw [show (pts t).length = (cpl t).toNat by rw [pts, ptL_length]]
  exact this

theorem iv_cells {w : World} {g o : Nat} {zs : List Int} (h : ∀ i, i < zs.length → w.cell? ⟨g, o + i, none⟩ = some (.int .i64 (zs.getD i 0))) : ∀ j u, (iv zs)[j]? = some u → w.cell? ((⟨g, o, none⟩ : Addr).add j) = some u := by
  intro j u hj
  have hj' : j < zs.length := by have := (List.getElem?_eq_some_iff.1 hj).1; rwa [iv_length] at this
  have hadd : (⟨g, o, none⟩ : Addr).add j = ⟨g, o + j, none⟩ := by unfold Addr.add; split <;> simp_all
  rw [hadd, h j hj']
  simp [iv, hj'] at hj
  rw [← hj]
  simp [hj']
theorem addr_add (b o n : Nat) : (⟨b, o, none⟩ : Addr).add n = ⟨b, o + n, none⟩ := by unfold Addr.add; split <;> simp_all
theorem sizeInt (W : World) : (sizeOf 3).run Tryz.prog W = .ok 1 W := by kernel_rfl
/-- The rest of a slice of numbers. -/
theorem rdp_rest {w : World} (b o len cp n : Nat) (zs : List Int) (hl : len = zs.length) (hn : n ≤ len) (hc : len ≤ cp) (hb : b < w.heap.size) (hz : ∀ i, i < zs.length → w.cell? ⟨b, o + i, none⟩ = some (.int .i64 (zs.getD i 0))) :
    RdP w (.slice (some ⟨b, o + n, none⟩) (len - n) (cp - n)) (zs.drop n) := by
  refine ⟨_, _, by rw [List.length_drop, hl], by rw [List.length_drop]; omega, fun h => ?_⟩
  rw [List.length_drop] at h
  refine ⟨b, o + n, rfl, hb, fun i hi => ?_⟩
  rw [List.length_drop] at hi
  rw [Nat.add_assoc, hz (n + i) (by omega)]
  simp
theorem rdp_none (w : World) (ao : Option Addr) (cp : Nat) (zs : List Int) (h : zs.length = 0) : RdP w (.slice ao 0 cp) zs := ⟨ao, cp, by rw [h], by omega, fun q => by omega⟩
set_option maxRecDepth 20000 in
theorem slice_head (b o len cp n : Nat) (hn : n ≤ len) (hc : len ≤ cp) (h0 : 0 < n) (W : World) :
    (Instr.slice 69 (.slice (some ⟨b, o, none⟩) len cp) none (some (.int .i64 (n : Int))) none).run Tryz.prog W = .ok (.slice (some ⟨b, o, none⟩) n cp) W := by
  rw [run_slice_h (P := Tryz.prog) W 69 (some ⟨b, o, none⟩) len cp Tryz.underlying69 .i64 (n : Int) (by omega) (by omega)]
  have e : Tryz.prog.elem 69 = 3 := by kernel_rfl
  rw [e, sizeInt]
  simp only [Result.andThen, sliced, Int.toNat_natCast, Option.map_some, Nat.mul_one, addr_add]
  rw [if_neg (by omega)]
  simp

set_option maxRecDepth 20000 in
set_option maxHeartbeats 2000000 in
theorem applied_any (v0 v : Value) (zs : List Int) (l : List St) (w : World) (hz : RdP w v0 zs) (hr : RdV w v (sv l)) (hl : l.length ≤ 3000) (ho : ∀ s ∈ l, s.Ok) (hB : bsum l = zs.length) (hB' : bsum l ≤ 1000) (hT : tsum l ≤ 1000) :
    Calls Tryz.prog 94 #[v0, v] w fun e w' => ∃ u, e = .returned u ∧ w'.ownsRow w.heap.size 3 1 u (apRun zs l).length (iv (apRun zs l)) ∧ Below w.heap.size w w' := by
  obtain ⟨i0, hin, hz0, hz1, hz2⟩ := info_parts Tryz.info3
  obtain ⟨ao, cp, rfl, hc⟩ := hr
  rw [sv_length]
  have kk := ta_kk
  have rk := ta_rk
  have rr := ta_rr
  have ik := ta_ik
  have ir := ta_ir
  have ii := ta_ii
  go_enter Tryz.func94, Tryz.ntmps94
  go_wp2
  go_loopw [0, 5, 15] (fun q d i wr => ∃ (k : Nat) (out : List Int), k ≤ l.length ∧ i = .int .i64 (k : Int) ∧ RdP w q (zs.drop (bsum (l.take k))) ∧ wr.ownsRow w.heap.size 3 1 d out.length (iv out) ∧ out.length = tsum (l.take k) ∧ Hid (out ++ apRun (zs.drop (bsum (l.take k))) (l.drop k) = apRun zs l) ∧ Below w.heap.size w wr) (fun _ _ i _ => l.length - (intOf i).toNat)
  case atStart => exact ⟨0, [], by omega, rfl, hz, World.ownsRow_nil _ _ _ _, rfl, rfl, Below.refl _ _⟩
  case round =>
    obtain ⟨k, out, hk, rfl, hq, hown, hlen, HE, hbl⟩ := hrel
    clear hz
    have hst := sum_take l k
    have hsz := hbl.size
    by_cases hlt : k < l.length
    · have hlt' : (k : Int) < (l.length : Int) := by omega
      have hsk := ho l[k] (List.getElem_mem hlt)
      have hbt := bsum_take l k hlt
      have htt := tsum_take l k hlt
      have hst2 := sum_take l (k + 1)
      have HD : Hid (l.drop k = l[k] :: l.drop (k + 1)) := List.drop_eq_getElem_cons hlt
      obtain ⟨b, off, rfl, hbb, c0'⟩ := hc k (l[k]).val (by simp [sv, hlt])
      have c0 := (hbl.cell (p := ⟨b, off + k, none⟩) hbb).trans c0'
      clear c0' hc ho
      generalize l[k] = s at hsk HD c0 hbt htt
      have HE2 : Hid (out ++ apRun (zs.drop (bsum (l.take k))) (s :: l.drop (k + 1)) = apRun zs l) := by show _ = _; rw [← HD.out]; exact HE.out
      clear HE HD
      cases s with
      | keep n =>
        simp only [St.val, St.Ok, St.b, St.c] at c0 hsk hbt htt
        obtain ⟨qo, qc, rfl, hqc, hqz⟩ := hq
        have hdl : (zs.drop (bsum (l.take k))).length = zs.length - bsum (l.take k) := List.length_drop
        obtain ⟨b', o', rfl, hb', hcell⟩ := hqz (by omega)
        obtain ⟨L, hL⟩ : ∃ L, L = (zs.drop (bsum (l.take k))).length := ⟨_, rfl⟩
        have hLn : n ≤ L := by omega
        have R := rdp_rest b' o' L qc n (zs.drop (bsum (l.take k))) hL hLn (by omega) hb' hcell
        rw [List.drop_drop, ← hbt] at R
        obtain ⟨Z, hZ⟩ : ∃ Z, Z = (zs.drop (bsum (l.take k))).take n := ⟨_, rfl⟩
        have HZl : Hid (Z.length = n) := by show _ = _; rw [hZ, List.length_take]; omega
        have HZL : Hid ((iv Z).length = n * 1) := by show _ = _; rw [iv_length, HZl.out]; omega
        have hnews : ∀ j u, (iv Z)[j]? = some u → wr.drew.cell? ((⟨b', o', none⟩ : Addr).add j) = some u := by
          refine iv_cells (w := wr.drew) (fun i hi => ?_)
          have h1 : wr.drew.cell? ⟨b', o' + i, none⟩ = wr.cell? ⟨b', o' + i, none⟩ := rfl
          have hi' : i < n := by rw [HZl.out] at hi; exact hi
          rw [h1, hbl.cell (p := ⟨b', o' + i, none⟩) hb', hcell i (by omega), hZ]
          simp [List.getD, hi']
        have hownD : wr.drew.ownsRow w.heap.size 3 1 _ out.length (iv out) := hown
        have HZ : Hid (L = n → (zs.drop (bsum (l.take (k + 1)))).length = 0) := fun h => by rw [List.length_drop]; omega
        have HE3 : Hid ((out ++ Z) ++ apRun (zs.drop (bsum (l.take (k + 1)))) (l.drop (k + 1)) = apRun zs l) := by
          show _ = _
          rw [← HE2.out, apRun, List.drop_drop, hbt, hZ, List.append_assoc]
        have HL : Hid ((out ++ Z).length = tsum (l.take (k + 1))) := by show _ = _; rw [List.length_append, HZl.out]; omega
        have hol : out.length ≤ 1000 := by omega
        rw [← hL] at hqc
        rw [← hL]
        have hLi : (n : Int) ≤ (L : Int) := by omega
        have hLq : (n : Int) ≤ (qc : Int) := by omega
        clear HE2 hcell hqz hbt htt hlen hst hst2 hdl hL hZ hown
        by_cases hcp : qc = n
        · obtain rfl : L = n := by omega
          subst hcp
          clear R
          have R := rdp_none w (some ⟨b', o', none⟩) 0 _ (HZ.out rfl)
          clear HZ
          go_wp2
          go_region_law ((refine step_append_lies _ (by rfl) (.tmp 23) (.tmp 26) 69 (by rfl) w.heap.size 3 i0 (.int .i64 0) 1 8 Tryz.underlying69 hin hz0 hz1 hz2 rfl (by decide) u5 out.length (iv out) (by simp [Act.eval, Act.put]) hownD ⟨b', o', none⟩ qc qc (iv Z) (by simp [Act.eval, Act.put]) HZL.out hnews (iv_one _) (by omega) (by unfold maxLen; omega) (by omega) hsz wr.heap.size rfl ?_; intro g4 c4 w4 ho4 hg4 _ _; have R4 := own_ints ho4 rfl HZl.out; have B4 : Below w.heap.size w w4 := (hbl.drew).grown hg4 hsz (fun k hk => (hownD.lt k hk).1); clear ho4 hg4))
          all_goals
            go_wp2
            go_roundw
            case rel => exact ⟨k + 1, out ++ Z, by omega, by go_num, R, R4, HL.out, HE3, B4⟩
            case measure => simp [intOf]; omega
        · clear HZ
          go_wp2
          go_region_law ((refine step_append_lies _ (by rfl) (.tmp 23) (.tmp 26) 69 (by rfl) w.heap.size 3 i0 (.int .i64 0) 1 8 Tryz.underlying69 hin hz0 hz1 hz2 rfl (by decide) u5 out.length (iv out) (by simp [Act.eval, Act.put]) hownD ⟨b', o', none⟩ n qc (iv Z) (by simp [Act.eval, Act.put]) HZL.out hnews (iv_one _) (by omega) (by unfold maxLen; omega) (by omega) hsz wr.heap.size rfl ?_; intro g4 c4 w4 ho4 hg4 _ _; have R4 := own_ints ho4 rfl HZl.out; have B4 : Below w.heap.size w w4 := (hbl.drew).grown hg4 hsz (fun k hk => (hownD.lt k hk).1); clear ho4 hg4))
          all_goals
            go_wp2
            go_roundw
            case rel => exact ⟨k + 1, out ++ Z, by omega, by go_num, R, R4, HL.out, HE3, B4⟩
            case measure => simp [intOf]; omega
      | rem n =>
        simp only [St.val, St.Ok, St.b, St.c] at c0 hsk hbt htt
        obtain ⟨qo, qc, rfl, hqc, hqz⟩ := hq
        have hdl : (zs.drop (bsum (l.take k))).length = zs.length - bsum (l.take k) := List.length_drop
        obtain ⟨b', o', rfl, hb', hcell⟩ := hqz (by omega)
        obtain ⟨L, hL⟩ : ∃ L, L = (zs.drop (bsum (l.take k))).length := ⟨_, rfl⟩
        have hLn : n ≤ L := by omega
        have R := rdp_rest b' o' L qc n (zs.drop (bsum (l.take k))) hL hLn (by omega) hb' hcell
        rw [List.drop_drop, ← hbt] at R
        have HZ : Hid (L = n → (zs.drop (bsum (l.take (k + 1)))).length = 0) := fun h => by rw [List.length_drop]; omega
        have HE3 : Hid (out ++ apRun (zs.drop (bsum (l.take (k + 1)))) (l.drop (k + 1)) = apRun zs l) := by
          show _ = _
          rw [← HE2.out, apRun, List.drop_drop, hbt]
        have HL : Hid (out.length = tsum (l.take (k + 1))) := by show _ = _; omega
        rw [← hL] at hqc
        rw [← hL]
        have hLi : (n : Int) ≤ (L : Int) := by omega
        have hLq : (n : Int) ≤ (qc : Int) := by omega
        clear HE2 hcell hqz hbt htt hlen hst hst2 hdl hL
        by_cases hcp : qc = n
        · obtain rfl : L = n := by omega
          subst hcp
          clear R
          have R := rdp_none w (some ⟨b', o', none⟩) 0 _ (HZ.out rfl)
          clear HZ
          go_wp2
          go_roundw
          case rel => exact ⟨k + 1, out, by omega, by go_num, R, hown, HL.out, HE3, hbl⟩
          case measure => simp [intOf]; omega
        · clear HZ
          go_wp2
          go_roundw
          case rel => exact ⟨k + 1, out, by omega, by go_num, R, hown, HL.out, HE3, hbl⟩
          case measure => simp [intOf]; omega
      | ins t =>
        simp only [St.val, St.Ok, St.b, St.c] at c0 hsk hbt htt
        have hts := size_cpl hsk.1
        have hP := points_any t wr (by omega) (by omega)
        have hpl := pts_len (t := t) (by omega)
        have hp0 : 0 < (pts t).length := by omega
        have hp1 : (pts t).length ≤ 1000 := by omega
        have HE3 : Hid ((out ++ pts t) ++ apRun (zs.drop (bsum (l.take (k + 1)))) (l.drop (k + 1)) = apRun zs l) := by
          show _ = _
          rw [← HE2.out, apRun, List.append_assoc, hbt, Nat.add_zero]
        have hol : out.length ≤ 1000 := by omega
        have HL : Hid ((out ++ pts t).length = tsum (l.take (k + 1))) := by show _ = _; rw [List.length_append]; omega
        rw [show bsum (l.take k) = bsum (l.take (k + 1)) by omega] at hq
        clear HE2 hbt htt hlen hst hst2 hts hpl hsk
        go_wp2_with (first | (go_at_call 92; refine hP.mono ?_; rintro e w1 ⟨u1, rfl, ho1, hb1⟩; have hown1 := own_belowG hown hb1; have hs1 := hb1.size; have hnw := rdp_own ho1; obtain ⟨a1, c1, hu1, _, hn1⟩ := hnw; obtain ⟨g1, o1, ha1, hg1, hnews⟩ := hn1 hp0; subst ha1; subst hu1) | (at_builtin; refine wpList_append_own _ rfl (.tmp 45) (.tmp 46) 69 rfl w.heap.size 3 i0 (.int .i64 0) 1 8 Tryz.underlying69 hin hz0 hz1 hz2 rfl (by decide) _ _ _ rfl hown1 ⟨g1, o1, none⟩ (pts t).length c1 (iv (pts t)) rfl (by rw [iv_length]; omega) (iv_cells hnews) (iv_one _) (by unfold maxLen; omega) (by omega) (by omega) ?_; intro v4 w4 ho4 hg4 _))
        have R1 := own_ints ho4 rfl rfl
        have R2 : Below w.heap.size w w4 := (hbl.trans (hb1.mono hsz)).grown hg4 (by omega) (fun k hk => (hown1.lt k hk).1)
        go_roundw
        case rel => exact ⟨k + 1, _, by omega, by go_num, hq, R1, HL.out, HE3, R2⟩
        case measure => simp [intOf]; omega
    · have e : k = l.length := by omega
      subst e
      rw [List.take_length, List.drop_length] at HE
      have HF : Hid (out = apRun zs l) := by show _ = _; rw [← HE.out]; simp [apRun]
      clear HE hc ho
      go_wp2
      go_ret
      exact ⟨_, rfl, by rw [← HF.out]; exact hown, hbl⟩
end Go.Proofs.YtcdnlkhjlgaaoaaGreatDoor

/-
  The contracts of Apply, of the reference's Same, and of live.
-/
namespace Go.Proofs.YtcdnlkhjlgaaoaaGreatDoor
open Go.ChangeShapes Go.WideShapes Go.ChangeAt Go.RowKit Go.PlainAid

/-- What Apply gives. -/
def apR (s : ByteArray) (ds : List OpD) : ByteArray × Int :=
  if cpl s < 0 then (⟨#[]⟩, 10) else if chk ds ≠ 0 then (⟨#[]⟩, chk ds) else if (bsum (stR ds) : Int) ≠ cpl s then (⟨#[]⟩, 91) else (mk (enc (apRun (pts s) (stR ds))), 0)

theorem pts_ok {t : ByteArray} (h : 0 ≤ cpl t) : ∀ z ∈ pts t, szI z ≠ 0 := (whole_eq (cpl_valid h)).2
theorem apRun_ok : ∀ (l : List St) (zs : List Int), (∀ s ∈ l, s.Ok) → (∀ z ∈ zs, szI z ≠ 0) → ∀ z ∈ apRun zs l, szI z ≠ 0
  | [], _, _, _ => by simp [apRun]
  | .keep n :: l, zs, ho, hz => by
    intro z h
    rw [apRun, List.mem_append] at h
    rcases h with h | h
    · exact hz z (List.mem_of_mem_take h)
    · exact apRun_ok l _ (fun s hs => ho s (by simp [hs])) (fun x hx => hz x (List.mem_of_mem_drop hx)) z h
  | .rem n :: l, zs, ho, hz => by
    intro z h
    rw [apRun] at h
    exact apRun_ok l _ (fun s hs => ho s (by simp [hs])) (fun x hx => hz x (List.mem_of_mem_drop hx)) z h
  | .ins t :: l, zs, ho, hz => by
    intro z h
    rw [apRun, List.mem_append] at h
    rcases h with h | h
    · exact pts_ok (t := t) (by have := ho (.ins t) (by simp); simp only [St.Ok] at this; omega) z h
    · exact apRun_ok l _ (fun s hs => ho s (by simp [hs])) hz z h

theorem rdp_reads {w : World} {base n : Nat} {v : Value} {zs : List Int} (h : w.ownsRow base 3 1 v n (iv zs)) : ReadsI w v zs := by
  have hl := h.1
  rw [iv_length, Nat.mul_one] at hl
  subst hl
  exact readsI_own h

set_option maxHeartbeats 2000000 in
theorem apply_any (s : ByteArray) (v : Value) (ds : List OpD) (w : World) (hs : s.size ≤ maxLen) (hr : RdD w v ds) (hm : ds.length ≤ maxLen) (hi : ∀ o ∈ ds, o.In) :
    Calls Tryz.prog 80 #[.string s, v] w fun e w' => e = .returned (.tuple #[.string (apR s ds).1, .int .i64 (apR s ds).2]) ∧ Below w.heap.size w w' := by
  have hL := len_any s w hs
  by_cases c0 : cpl s < 0
  · have e : apR s ds = (⟨#[]⟩, 10) := by rw [apR, if_pos c0]
    rw [e]
    generalize cpl s = n at *
    go_enter Tryz.func80, Tryz.ntmps80
    go_wp2_with (go_at_call 91; refine hL.mono ?_; rintro e w1 ⟨rfl, rfl⟩)
    go_ret2
    exact ⟨rfl, Below.refl _ _⟩
  · have hS := stepsOf_any v ds w hr hm hi
    have hok := stR_ok hi
    by_cases c1 : chk ds = 0
    · have hbd := stR_bd ds
      have hG := fun u W h => lengths_any u (stR ds) W h (stR_len ds) hok
      rw [c1] at hS
      by_cases c2 : (bsum (stR ds) : Int) = cpl s
      · have HR : Hid (apR s ds = (mk (enc (apRun (pts s) (stR ds))), 0)) := by show _ = _; rw [apR, if_neg c0, if_neg (fun h => h c1), if_neg (fun h => h c2)]
        have hsz : s.size ≤ 4000 := by
          by_cases h : 0 < cpl s
          · have := size_cpl h; omega
          · have hv := cpl_valid (s := s) (by omega)
            have h0 : (cpl s).toNat = 0 := by omega
            rw [h0] at hv
            have := hv.2
            simp [pos] at this
            omega
        have hpl := pts_len (t := s) (by omega)
        have hP := fun W => points_any s W (by omega) (by omega)
        have hA := fun v0 u W h1 h2 => applied_any v0 u (pts s) (stR ds) W h1 h2 (stR_len ds) hok (by omega) hbd.1 hbd.2
        have hal := apRun_len (stR ds) (pts s) (by omega)
        have hX := fun u W h => text_any u (apRun (pts s) (stR ds)) W (by omega) h
        have hxe : textR (apRun (pts s) (stR ds)) = (mk (enc (apRun (pts s) (stR ds))), true) := by rw [textR, if_pos (apRun_ok _ _ hok (pts_ok (by omega)))]
        rw [hxe] at hX
        simp only at hX
        obtain ⟨n, hn⟩ := Int.eq_ofNat_of_zero_le (show 0 ≤ cpl s by omega)
        have hbn : bsum (stR ds) = n := by omega
        rw [hn] at hL
        rw [hbn] at hG
        clear hxe hpl c0 c2 hn hal hbd hok
        generalize mk (enc (apRun (pts s) (stR ds))) = res at *
        go_enter Tryz.func80, Tryz.ntmps80
        go_wp2_with (first | (go_at_call 91; refine hL.mono ?_; rintro e w1 ⟨rfl, rfl⟩) | (go_at_call 69; refine hS.mono ?_; rintro e w2 ⟨u, rfl, ho2, hb2⟩) | (go_at_call 79; refine (hG _ _ (rdv_own ho2)).mono ?_; rintro e w3 ⟨rfl, rfl⟩) | (go_at_call 92; refine (hP _).mono ?_; rintro e w4 ⟨u4, rfl, ho4, hb4⟩) | (go_at_call 94; refine (hA _ _ _ (rdp_own ho4) ((rdv_own ho2).below hb4)).mono ?_; rintro e w5 ⟨u5, rfl, ho5, hb5⟩) | (go_at_call 93; refine (hX _ _ (rdp_reads ho5)).mono ?_; rintro e w6 ⟨rfl, hb6⟩))
        go_ret2
        exact ⟨by rw [HR.out]; rfl, chain (chain (chain hb2 hb4) hb5) hb6⟩
      · have e : apR s ds = (⟨#[]⟩, 91) := by rw [apR, if_neg c0, if_neg (fun h => h c1), if_pos c2]
        rw [e]
        have hne : ((bsum (stR ds) : Int) != cpl s) = true := by simpa using c2
        clear c2 hbd
        generalize bsum (stR ds) = B at *
        generalize cpl s = n at *
        go_enter Tryz.func80, Tryz.ntmps80
        go_wp2_with (first | (go_at_call 91; refine hL.mono ?_; rintro e w1 ⟨rfl, rfl⟩) | (go_at_call 69; refine hS.mono ?_; rintro e w2 ⟨u, rfl, ho2, hb2⟩) | (go_at_call 79; refine (hG _ _ (rdv_own ho2)).mono ?_; rintro e w3 ⟨rfl, rfl⟩))
        go_ret2
        exact ⟨rfl, hb2⟩
    · have e : apR s ds = (⟨#[]⟩, chk ds) := by rw [apR, if_neg c0, if_pos c1]
      rw [e]
      have hne : (chk ds != 0) = true := by simpa using c1
      clear e
      generalize chk ds = c at *
      generalize cpl s = n at *
      go_enter Tryz.func80, Tryz.ntmps80
      go_wp2_with (first | (go_at_call 91; refine hL.mono ?_; rintro e w1 ⟨rfl, rfl⟩) | (go_at_call 69; refine hS.mono ?_; rintro e w2 ⟨u, rfl, ho2, hb2⟩))
      go_ret2
      exact ⟨rfl, hb2⟩

set_option maxRecDepth 20000 in
set_option maxHeartbeats 2000000 in
theorem same_true (va vb : Value) (l : List OpD) (w : World) (hm : l.length ≤ maxLen) (ha : RdD w va l) (hb : RdD w vb l) :
    Calls Tryz.prog 25 #[va, vb] w fun e w' => e = .returned (.bool true) ∧ Below w.heap.size w w' := by
  obtain ⟨ao, ac, rfl, _, hac⟩ := ha
  obtain ⟨bo, bc, rfl, _, hbc⟩ := hb
  unfold maxLen at hm
  go_enter Tryz.func25, Tryz.ntmps25
  go_wp2
  go_loopw [5] (fun i wr => ∃ k : Nat, k ≤ l.length ∧ i = .int .i64 (k : Int) ∧ Below w.heap.size w wr) (fun i _ => l.length - (intOf i).toNat)
  case atStart => exact ⟨0, by omega, rfl, Below.refl _ _⟩
  case round =>
    obtain ⟨k, hk, rfl, hbl⟩ := hrel
    by_cases hlt : k < l.length
    · have hlt' : (k : Int) < (l.length : Int) := by omega
      obtain ⟨b1, o1, rfl, hb1, c0, c1, c2⟩ := hac k l[k] (by simp [hlt])
      obtain ⟨b2, o2, rfl, hb2, d0, d1, d2⟩ := hbc k l[k] (by simp [hlt])
      have hB1 : ∀ o, wr.cell? ⟨b1, o, none⟩ = w.cell? ⟨b1, o, none⟩ := fun o => hbl.cell (p := ⟨b1, o, none⟩) hb1
      have hB2 : ∀ o, wr.cell? ⟨b2, o, none⟩ = w.cell? ⟨b2, o, none⟩ := fun o => hbl.cell (p := ⟨b2, o, none⟩) hb2
      rw [← hB1] at c0 c1 c2
      rw [← hB2] at d0 d1 d2
      clear hB1 hB2 hac hbc
      generalize l[k] = o at *
      go_wp2
      go_quiet (fail)
      go_wp2
      go_roundw
      case rel => exact ⟨k + 1, by omega, by go_num, below_drewN hbl _⟩
      case measure => simp [intOf]; omega
    · clear hac hbc
      go_wp2
      go_ret
      exact ⟨rfl, hbl⟩
end Go.Proofs.YtcdnlkhjlgaaoaaGreatDoor
