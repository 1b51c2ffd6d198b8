/-
  What undoes a delta; the contract of inverted.
-/
import Derived.Test.YtgabanndjiegdabOtR
import Derived.Deep.RegionLaw
import Derived.Deep.AppendLies
import Derived.Laws.Cover4
import Derived.Laws.IdiomStrings
namespace Go.Proofs.Ytgabanndjiegdab
open Go.ChangeShapes Go.WideShapes Go.ChangeAt Go.RowKit Go.PlainAid

/-- Code points at a place, with room for as many. -/
def RdR (w : World) (v : Value) (zs : List Int) : Prop :=
  ∃ ao cp, v = .slice ao zs.length cp ∧ zs.length ≤ cp ∧ (0 < zs.length → ∃ b off, ao = some ⟨b, off, none⟩ ∧ b < w.heap.size ∧ ∀ i, i < zs.length → w.cell? ⟨b, off + i, none⟩ = some (.int .i32 (zs.getD i 0)))
theorem rdr_rest {w : World} (b o len cp n : Nat) (zs : List Int) (hl : len = zs.length) (hn : n ≤ len) (hc : len ≤ cp) (hb : b < w.heap.size) (hz : ∀ i, i < zs.length → w.cell? ⟨b, o + i, none⟩ = some (.int .i32 (zs.getD i 0))) :
    RdR w (.slice (some ⟨b, o + n, none⟩) (len - n) (cp - n)) (zs.drop n) := by
  refine ⟨_, _, by rw [List.length_drop, hl], by rw [List.length_drop]; omega, fun h => ?_⟩
  rw [List.length_drop] at h
  refine ⟨b, o + n, rfl, hb, fun i hi => ?_⟩
  rw [List.length_drop] at hi
  rw [Nat.add_assoc, hz (n + i) (by omega)]
  simp
theorem rdr_none (w : World) (ao : Option Addr) (cp : Nat) (zs : List Int) (h : zs.length = 0) : RdR w (.slice ao 0 cp) zs := ⟨ao, cp, by rw [h], by omega, fun q => by omega⟩

/-- What undoes steps of code points. -/
def invO : List Int → List St → List OpD
  | _, [] => []
  | zs, .keep n :: l => ⟨1, n, ⟨#[]⟩⟩ :: invO (zs.drop n) l
  | zs, .rem n :: l => ⟨2, 0, mk (enc (zs.take n))⟩ :: invO (zs.drop n) l
  | zs, .ins t :: l => ⟨3, cpl t, ⟨#[]⟩⟩ :: invO zs l
theorem invO_len : ∀ (l : List St) (zs : List Int), (invO zs l).length = l.length
  | [], _ => rfl
  | .keep n :: l, zs => by rw [invO, List.length_cons, invO_len l]; rfl
  | .rem n :: l, zs => by rw [invO, List.length_cons, invO_len l]; rfl
  | .ins t :: l, zs => by rw [invO, List.length_cons, invO_len l]; rfl

theorem mk_append (a b : List UInt8) : mk a ++ mk b = mk (a ++ b) := by
  apply ByteArray.ext
  simp [mk]
theorem runes_enc : ∀ (zs : List Int) (a : List UInt8), (∀ z ∈ zs, szI z ≠ 0) → zs.foldl (fun r n => r ++ Utf8.encode n) (mk a) = mk (a ++ enc zs)
  | [], a, _ => by simp [enc]
  | z :: zs, a, h => by
    rw [List.foldl_cons, enc_rune (h z (by simp)), mk_append, runes_enc zs _ (fun y hy => h y (by simp [hy])), List.append_assoc]
    rfl
theorem runesBytes_enc {zs : List Int} (h : ∀ z ∈ zs, szI z ≠ 0) : runesBytes zs = mk (enc zs) := by
  have := runes_enc zs [] h
  rw [List.nil_append] at this
  exact this

set_option maxRecDepth 20000 in
/-- string(points[:n]). -/
theorem conv_runes (W : World) (b o n cap : Nat) (zs : List Int) (hn : n ≤ zs.length) (hz : ∀ z ∈ zs, szI z ≠ 0) (hc : ∀ i, i < zs.length → W.cell? ⟨b, o + i, none⟩ = some (.int .i32 (zs.getD i 0))) :
    (convert 58 9 (.slice (some ⟨b, o, none⟩) n cap)).run Try.prog W = .ok (.string (mk (enc (zs.take n)))) W := by
  rw [run_convert_runes W 58 9 21 ⟨b, o, none⟩ n cap zs hn Try.underlying58 Try.underlying21 Try.underlying9 (fun j hj => by rw [addr_add]; exact hc j hj)]
  rw [runesBytes_enc (fun z hz' => hz z (List.mem_of_mem_take hz'))]

theorem many_newTD (wr : World) (X : Obj) (l : List Value) (e : Nat) : ∀ j u, l[j]? = some u → (((wr.alloc X).alloc (.cells l.toArray e)).drew).cell? ((⟨wr.heap.size + 1, 0, none⟩ : Addr).add j) = some u := many_newT wr X l e
/-- A new box keeps what it has while a row of the call's own grows. -/
theorem app_kept {wr W' : World} {B e z n : Nat} {d : Value} {L : List Value} {X : Obj} {C : Obj} (hown : wr.ownsRow B e z d n L) (hg : ((wr.alloc X).alloc C).grownBy W' d.ownBlock) : W'.heap[wr.heap.size]? = some X := by
  have h1 : ((wr.alloc X).alloc C).heap[wr.heap.size]? = some X := (Below.heap_alloc _ _ _ (by simp)).trans (heap_alloc_new wr X)
  have ho : Only d.ownBlock.toList ((wr.alloc X).alloc C) W' := Only.of_grown hg (fun k e => by simp [e])
  refine only_heap h1 ho (fun hm => ?_)
  have := (hown.lt _ (by simpa using hm)).2
  omega
theorem app_below {w wr W' : World} {e z n : Nat} {d : Value} {L : List Value} {X : Obj} {C : Obj} (hbl : Below w.heap.size w wr) (hown : wr.ownsRow w.heap.size e z d n L) (hg : ((wr.alloc X).alloc C).grownBy W' d.ownBlock) : Below w.heap.size w W' := by
  have ho : Only d.ownBlock.toList wr W' := ((Only.alloc _ _ _).trans (Only.alloc _ _ _)).trans (Only.of_grown hg (fun k e => by simp [e]))
  exact hbl.trans (ho.below hbl.size (fun k hk => (hown.lt k (by simpa using hk)).1))

theorem app_facts {w wr W' : World} {g cap : Nat} {d : Value} {D : List OpD} {k : Int} {n : Int} {t : ByteArray} {X1 X2 X3 : Value} {C : Obj} (hbl : Below w.heap.size w wr) (hown : wr.ownsRow w.heap.size 35 3 d D.length (ocs D))
    (ho : W'.ownsRow w.heap.size 35 3 (.slice (some ⟨g, 0, none⟩) (D.length + 1) cap) (D.length + 1) (ocs D ++ [Value.int .i64 k, .int .i64 n, .string t])) (hg : (((wr.alloc (.cells #[X1, X2, X3] 35)).alloc C).drew).grownBy W' d.ownBlock) :
    W'.ownsRow w.heap.size 35 3 (.slice (some ⟨g, 0, none⟩) (D.length + 1) cap) (D ++ [(⟨k, n, t⟩ : OpD)]).length (ocs (D ++ [(⟨k, n, t⟩ : OpD)])) ∧ Below w.heap.size w W' ∧ W'.cell? ⟨wr.heap.size, 1, none⟩ = some X2 := by
  have hg' : ((wr.alloc (.cells #[X1, X2, X3] 35)).alloc C).grownBy W' d.ownBlock := ⟨hg.os, hg.tape, hg.output, hg.size, hg.block⟩
  exact ⟨own_op (o := ⟨k, n, t⟩) ho rfl, app_below hbl hown hg', cell_of_row _ _ 1 _ _ (0, 0) (app_kept hown hg')⟩

theorem rem_call {w wr w1 : World} {d : Value} {D : List OpD} {X1 X2 X3 : Value} (hbl : Below w.heap.size w wr) (hown : wr.ownsRow w.heap.size 35 3 d D.length (ocs D)) (hb : Below ((wr.alloc (.cells #[X1, X2, X3] 35)).drew).heap.size ((wr.alloc (.cells #[X1, X2, X3] 35)).drew) w1) :
    w1.ownsRow w.heap.size 35 3 d D.length (ocs D) ∧ w1.cell? ⟨wr.heap.size, 1, none⟩ = some X2 ∧ (∀ Z, (w1.alloc Z).cell? ⟨wr.heap.size, 1, none⟩ = some X2) ∧ Below w.heap.size w w1 ∧ wr.heap.size < w1.heap.size := by
  have hO : Only [] wr w1 := ((Only.alloc [] wr _).trans (Only.drew [] _)).trans (Only.of_below hb)
  have hx : w1.heap[wr.heap.size]? = some (.cells #[X1, X2, X3] 35 (0, 0)) := (hb.block _ (by show _ < (wr.alloc _).heap.size; simp)).trans (heap_alloc_new wr _)
  exact ⟨own_only hown hO (by simp), cell_of_row _ _ 1 _ _ (0, 0) hx, fun Z => cell_of_row _ _ 1 _ _ (0, 0) (only_heap hx (Only.alloc [] w1 Z) (by simp)), hbl.trans (hO.below hbl.size (by simp)), heap_lt hx⟩
theorem rem_app {w wr w1 W' : World} {g cap : Nat} {d : Value} {D : List OpD} {k : Int} {n : Int} {t : ByteArray} {X2 : Value} {C : Obj} (hbl : Below w.heap.size w w1) (hown : w1.ownsRow w.heap.size 35 3 d D.length (ocs D)) (hwr : wr.ownsRow w.heap.size 35 3 d D.length (ocs D)) (hlt : wr.heap.size < w1.heap.size) (hx : w1.cell? ⟨wr.heap.size, 1, none⟩ = some X2)
    (ho : W'.ownsRow w.heap.size 35 3 (.slice (some ⟨g, 0, none⟩) (D.length + 1) cap) (D.length + 1) (ocs D ++ [Value.int .i64 k, .int .i64 n, .string t])) (hg : (w1.alloc C).grownBy W' d.ownBlock) :
    W'.ownsRow w.heap.size 35 3 (.slice (some ⟨g, 0, none⟩) (D.length + 1) cap) (D ++ [(⟨k, n, t⟩ : OpD)]).length (ocs (D ++ [(⟨k, n, t⟩ : OpD)])) ∧ Below w.heap.size w W' ∧ W'.cell? ⟨wr.heap.size, 1, none⟩ = some X2 := by
  have ho2 : Only d.ownBlock.toList w1 W' := (Only.alloc _ _ _).trans (Only.of_grown hg (fun k e => by simp [e]))
  refine ⟨own_op (o := ⟨k, n, t⟩) ho rfl, hbl.trans (ho2.below hbl.size (fun k hk => (hown.lt k (by simpa using hk)).1)), ?_⟩
  have e := ho2.block wr.heap.size hlt (fun hm => by have := (hwr.lt _ (by simpa using hm)).2; omega)
  rw [← hx]
  unfold World.cell?
  rw [e]

set_option maxRecDepth 20000 in
set_option maxHeartbeats 3000000 in
theorem inverted_any (v0 v : Value) (zs : List Int) (ds : List St) (w : World) (hz : RdR w v0 zs) (hr : RdD w v (ds.map St.op)) (hl : ds.length ≤ 3000) (ho : ∀ s ∈ ds, s.Ok ∧ s.c ≤ 1000) (hB : bsum ds = zs.length) (hB' : bsum ds ≤ 1000) (hzs : ∀ z ∈ zs, szI z ≠ 0) :
    Calls Try.prog 23 #[v0, v] w fun e w' => ∃ u, e = .returned u ∧ w'.ownsRow w.heap.size 35 3 u (invO zs ds).length (ocs (invO zs ds)) ∧ Below w.heap.size w w' := by
  obtain ⟨i0, hin, hz0, hz1, hz2⟩ := info_parts Try.infoOp
  obtain ⟨ao, cp, rfl, _, hc⟩ := hr
  rw [List.length_map]
  go_enter Try.func23, Try.ntmps23
  go_wp2
  go_loopw [0, 5, 10] (fun q d i wr => ∃ (k : Nat) (out : List OpD), k ≤ ds.length ∧ i = .int .i64 (k : Int) ∧ RdR w q (zs.drop (bsum (ds.take k))) ∧ wr.ownsRow w.heap.size 35 3 d out.length (ocs out) ∧ out.length = k ∧ Hid (out ++ invO (zs.drop (bsum (ds.take k))) (ds.drop k) = invO zs ds) ∧ Below w.heap.size w wr) (fun _ _ i _ => ds.length - (intOf i).toNat)
  case atStart => exact ⟨0, [], by omega, rfl, hz, World.ownsRow_nil _ _ _ _, rfl, rfl, Below.refl _ _⟩
  case round =>
    obtain ⟨k, out, hk, rfl, hq, hown, hlen, HE, hbl⟩ := hrel
    clear hz
    have hst := sum_take ds k
    have hsz := hbl.size
    by_cases hlt : k < ds.length
    · have hlt' : (k : Int) < (ds.length : Int) := by omega
      have hsk := ho ds[k] (List.getElem_mem hlt)
      have hbt := bsum_take ds k hlt
      have hst2 := sum_take ds (k + 1)
      have HD : Hid (ds.drop k = ds[k] :: ds.drop (k + 1)) := List.drop_eq_getElem_cons hlt
      obtain ⟨b, off, rfl, hbb, c0', c1', c2'⟩ := hc k (ds[k]).op (by simp [hlt])
      have c0 := (hbl.cell (p := ⟨b, off + k * 3, none⟩) hbb).trans c0'
      have c1 := (hbl.cell (p := ⟨b, off + k * 3 + 1, none⟩) hbb).trans c1'
      have c2 := (hbl.cell (p := ⟨b, off + k * 3 + 2, none⟩) hbb).trans c2'
      clear c0' c1' c2' hc ho
      have hol : out.length ≤ 3000 := by omega
      generalize ds[k] = s at hsk HD c0 c1 c2 hbt
      have HE2 : Hid (out ++ invO (zs.drop (bsum (ds.take k))) (s :: ds.drop (k + 1)) = invO zs ds) := by show _ = _; rw [← HD.out]; exact HE.out
      clear HE HD
      obtain ⟨ao5, cp5, e5⟩ := own_form hown
      subst e5
      cases s with
      | keep n =>
        simp only [St.op, St.Ok, St.b] at c0 c1 c2 hsk hbt
        obtain ⟨qo, qc, rfl, hqc, hqz⟩ := hq
        have hdl : (zs.drop (bsum (ds.take k))).length = zs.length - bsum (ds.take k) := List.length_drop
        obtain ⟨b', o', rfl, hb', hcell⟩ := hqz (by omega)
        obtain ⟨L, hL⟩ : ∃ L, L = (zs.drop (bsum (ds.take k))).length := ⟨_, rfl⟩
        have hLn : n ≤ L := by omega
        have R := rdr_rest b' o' L qc n (zs.drop (bsum (ds.take k))) hL hLn (by omega) hb' hcell
        rw [List.drop_drop, ← hbt] at R
        have HZ : Hid (L = n → (zs.drop (bsum (ds.take (k + 1)))).length = 0) := fun h => by rw [List.length_drop]; omega
        have HE3 : Hid ((out ++ [⟨1, n, ⟨#[]⟩⟩]) ++ invO (zs.drop (bsum (ds.take (k + 1)))) (ds.drop (k + 1)) = invO zs ds) := by
          show _ = _
          rw [← HE2.out, invO, List.drop_drop, hbt, List.append_assoc]; rfl
        have HL : Hid ((out ++ [(⟨1, n, ⟨#[]⟩⟩ : OpD)]).length = k + 1) := by show _ = _; rw [List.length_append, hlen]; rfl
        rw [← hL] at hqc
        rw [← hL]
        have hLi : (n : Int) ≤ (L : Int) := by omega
        have hLq : (n : Int) ≤ (qc : Int) := by omega
        clear HE2 hcell hqz hbt hlen hst hst2 hdl hL
        by_cases hcp : qc = n
        · obtain rfl : L = n := by omega
          subst hcp
          clear R
          have R := rdr_none w (some ⟨b', o', none⟩) 0 _ (HZ.out rfl)
          clear HZ
          go_wp2
          go_region_law ((refine step_append_lies _ (by rfl) (.tmp 18) (.tmp 20) 22 (by rfl) w.heap.size 35 i0 (.agg #[.int .i64 0, .int .i64 0, .string ⟨#[]⟩]) 3 32 Try.underlying22 hin hz0 hz1 hz2 rfl (by decide) (.slice ao5 out.length cp5) out.length (ocs out) (by simp [Act.eval, Act.put]) ((hown.alloc _).alloc _) ⟨wr.heap.size + 1, 0, none⟩ 1 1 [.int .i64 1, .int .i64 (qc : Int), .string ⟨#[]⟩] (by simp [Act.eval, Act.put]) rfl (many_newTD _ _ _ _) (three_one _ _ _) (by decide) (by unfold maxLen; omega) (by omega) (by simp; omega) (wr.heap.size + 2) (by simp) ?_; intro g4 c4 w4 ho4 hg4 _ _; obtain ⟨R4, B4, y4⟩ := app_facts hbl hown ho4 hg4; clear ho4 hg4))
          all_goals
            go_wp2
            go_roundw
            case rel => exact ⟨k + 1, _, by omega, by go_num, R, R4, HL.out, HE3, B4⟩
            case measure => simp [intOf]; omega
        · clear HZ
          go_wp2
          go_region_law ((refine step_append_lies _ (by rfl) (.tmp 18) (.tmp 20) 22 (by rfl) w.heap.size 35 i0 (.agg #[.int .i64 0, .int .i64 0, .string ⟨#[]⟩]) 3 32 Try.underlying22 hin hz0 hz1 hz2 rfl (by decide) (.slice ao5 out.length cp5) out.length (ocs out) (by simp [Act.eval, Act.put]) ((hown.alloc _).alloc _) ⟨wr.heap.size + 1, 0, none⟩ 1 1 [.int .i64 1, .int .i64 n, .string ⟨#[]⟩] (by simp [Act.eval, Act.put]) rfl (many_newTD _ _ _ _) (three_one _ _ _) (by decide) (by unfold maxLen; omega) (by omega) (by simp; omega) (wr.heap.size + 2) (by simp) ?_; intro g4 c4 w4 ho4 hg4 _ _; obtain ⟨R4, B4, y4⟩ := app_facts hbl hown ho4 hg4; clear ho4 hg4))
          all_goals
            go_wp2
            go_roundw
            case rel => exact ⟨k + 1, _, by omega, by go_num, R, R4, HL.out, HE3, B4⟩
            case measure => simp [intOf]; omega
      | rem n =>
        simp only [St.op, St.Ok, St.b] at c0 c1 c2 hsk hbt
        obtain ⟨qo, qc, rfl, hqc, hqz⟩ := hq
        have hdl : (zs.drop (bsum (ds.take k))).length = zs.length - bsum (ds.take k) := List.length_drop
        obtain ⟨b', o', rfl, hb', hcell⟩ := hqz (by omega)
        obtain ⟨L, hL⟩ : ∃ L, L = (zs.drop (bsum (ds.take k))).length := ⟨_, rfl⟩
        have hLn : n ≤ L := by omega
        have R := rdr_rest b' o' L qc n (zs.drop (bsum (ds.take k))) hL hLn (by omega) hb' hcell
        rw [List.drop_drop, ← hbt] at R
        have HZ : Hid (L = n → (zs.drop (bsum (ds.take (k + 1)))).length = 0) := fun h => by rw [List.length_drop]; omega
        obtain ⟨T, hT⟩ : ∃ T, T = mk (enc ((zs.drop (bsum (ds.take k))).take n)) := ⟨_, rfl⟩
        have hcv := conv_runes ((wr.alloc (.cells #[.int .i64 3, .int .i64 (n : Int), .string ⟨#[]⟩] 35)).drew) b' o' n qc (zs.drop (bsum (ds.take k))) (by omega) (fun z hz => hzs z (List.mem_of_mem_drop hz))
          (fun i hi => by
            rw [← hcell i hi, ← hbl.cell (p := ⟨b', o' + i, none⟩) hb']
            exact World.cell?_alloc_past _ _ _ (by omega))
        rw [← hT] at hcv
        have HE3 : Hid ((out ++ [⟨2, 0, T⟩]) ++ invO (zs.drop (bsum (ds.take (k + 1)))) (ds.drop (k + 1)) = invO zs ds) := by
          show _ = _
          rw [← HE2.out, invO, List.drop_drop, hbt, List.append_assoc, hT]; rfl
        have HL : Hid ((out ++ [(⟨2, 0, T⟩ : OpD)]).length = k + 1) := by show _ = _; rw [List.length_append, hlen]; rfl
        have hI := otIns_any T
        rw [← hL] at hqc
        rw [← hL]
        have hLi : (n : Int) ≤ (L : Int) := by omega
        have hLq : (n : Int) ≤ (qc : Int) := by omega
        have hn0 : n ≠ 0 := by omega
        clear HE2 hcell hqz hbt hlen hst hst2 hdl hL hT
        by_cases hcp : qc = n
        · obtain rfl : L = n := by omega
          subst hcp
          clear R
          have R := rdr_none w (some ⟨b', o', none⟩) 0 _ (HZ.out rfl)
          clear HZ
          go_wp2
          go_region_law (first
            | (refine step_append_lies _ (by rfl) (.tmp 28) (.tmp 35) 22 (by rfl) w.heap.size 35 i0 (.agg #[.int .i64 0, .int .i64 0, .string ⟨#[]⟩]) 3 32 Try.underlying22 hin hz0 hz1 hz2 rfl (by decide) (.slice ao5 out.length cp5) out.length (ocs out) (by simp [Act.eval, Act.put]) (own1.alloc _) ⟨w1.heap.size, 0, none⟩ 1 1 [.int .i64 2, .int .i64 0, .string T] (by simp [Act.eval, Act.put]) rfl (many_new _ _ _) (three_one _ _ _) (by decide) (by unfold maxLen; omega) (by omega) (by simp; omega) (w1.heap.size + 1) (by simp) ?_; intro g4 c4 w4 ho4 hg4 _ _; obtain ⟨R4, B4, y4⟩ := rem_app bl1 own1 hown lt1 x1 ho4 hg4; clear ho4 hg4)
            | (go_simp; go_at_call 37; refine (hI _).mono ?_; rintro e w1 ⟨rfl, hb1⟩; obtain ⟨own1, x1, xz1, bl1, lt1⟩ := rem_call hbl hown hb1; have sz1 := bl1.size; clear hb1))
          all_goals
            go_wp2
            go_roundw
            case rel => exact ⟨k + 1, _, by omega, by go_num, R, R4, HL.out, HE3, B4⟩
            case measure => simp [intOf]; omega
        · clear HZ
          go_wp2
          go_region_law (first
            | (refine step_append_lies _ (by rfl) (.tmp 28) (.tmp 35) 22 (by rfl) w.heap.size 35 i0 (.agg #[.int .i64 0, .int .i64 0, .string ⟨#[]⟩]) 3 32 Try.underlying22 hin hz0 hz1 hz2 rfl (by decide) (.slice ao5 out.length cp5) out.length (ocs out) (by simp [Act.eval, Act.put]) (own1.alloc _) ⟨w1.heap.size, 0, none⟩ 1 1 [.int .i64 2, .int .i64 0, .string T] (by simp [Act.eval, Act.put]) rfl (many_new _ _ _) (three_one _ _ _) (by decide) (by unfold maxLen; omega) (by omega) (by simp; omega) (w1.heap.size + 1) (by simp) ?_; intro g4 c4 w4 ho4 hg4 _ _; obtain ⟨R4, B4, y4⟩ := rem_app bl1 own1 hown lt1 x1 ho4 hg4; clear ho4 hg4)
            | (go_simp; go_at_call 37; refine (hI _).mono ?_; rintro e w1 ⟨rfl, hb1⟩; obtain ⟨own1, x1, xz1, bl1, lt1⟩ := rem_call hbl hown hb1; have sz1 := bl1.size; clear hb1))
          all_goals
            go_wp2
            go_roundw
            case rel => exact ⟨k + 1, _, by omega, by go_num, R, R4, HL.out, HE3, B4⟩
            case measure => simp [intOf]; omega
      | ins t =>
        simp only [St.op, St.Ok, St.b] at c0 c1 c2 hsk hbt
        have hcp0 : 0 ≤ cpl t := by omega
        have hts := size_cpl hsk.1.1
        have hcl : (cpl t).toNat ≤ 1000 := hsk.2
        have hRu := fun W => runes_any t W (by omega) hcp0
        have hRe := otRem_any (cpl t)
        have HE3 : Hid ((out ++ [⟨3, cpl t, ⟨#[]⟩⟩]) ++ invO (zs.drop (bsum (ds.take (k + 1)))) (ds.drop (k + 1)) = invO zs ds) := by
          show _ = _
          rw [← HE2.out, invO, List.append_assoc, hbt, Nat.add_zero]; rfl
        have HL : Hid ((out ++ [(⟨3, cpl t, ⟨#[]⟩⟩ : OpD)]).length = k + 1) := by show _ = _; rw [List.length_append, hlen]; rfl
        rw [show bsum (ds.take k) = bsum (ds.take (k + 1)) by omega] at hq
        have hA : Below w.heap.size w (wr.alloc (.cells #[.int .i64 2, .int .i64 0, .string t] 35)) := hbl.alloc hsz _
        have hO1 := hown.alloc (.cells #[.int .i64 2, .int .i64 0, .string t] 35)
        clear HE2 hbt hlen hst hst2 hsk
        generalize cpl t = ct at *
        go_wp2_with (first
          | (go_at_call 39; refine (hRu _).mono ?_; rintro e w1 ⟨rfl, hb1⟩; have hA1 := hA.trans (hb1.mono hA.size); have hO2 := own_belowG hO1 hb1)
          | (go_at_call 38; refine (hRe _).mono ?_; rintro e w2 ⟨rfl, hb2⟩; have hA2 := hA1.trans (hb2.mono hA1.size); have hO3 := own_belowG hO2 hb2; have sz2 := hA2.size)
          | (at_builtin; refine wpList_append_lies _ rfl (.tmp 43) (.tmp 48) 22 rfl w.heap.size 35 i0 (.agg #[.int .i64 0, .int .i64 0, .string ⟨#[]⟩]) 3 32 Try.underlying22 hin hz0 hz1 hz2 rfl (by decide) (.slice ao5 out.length cp5) out.length (ocs out) rfl (hO3.alloc _) ⟨_, 0, none⟩ 1 1 [.int .i64 3, .int .i64 ct, .string ⟨#[]⟩] rfl rfl (many_new _ _ _) (three_one _ _ _) (by decide) (by unfold maxLen; omega) (by omega) (by simp; omega) _ rfl ?_; intro g4 c4 w4 ho4 hg4 _ _))
        have R4 := own_op (o := ⟨3, ct, ⟨#[]⟩⟩) ho4 rfl
        have B4 : Below w.heap.size w w4 := (hA2.alloc sz2 _).grown hg4 (by simp; omega) (fun k hk => (hO3.lt k hk).1)
        go_roundw
        case rel => exact ⟨k + 1, _, by omega, by go_num, hq, R4, HL.out, HE3, B4⟩
        case measure => simp [intOf]; omega
    · have e : k = ds.length := by omega
      subst e
      rw [List.take_length, List.drop_length] at HE
      have HF : Hid (out = invO zs ds) := by show _ = _; rw [← HE.out]; simp [invO]
      clear HE hc ho
      go_wp2
      go_ret
      exact ⟨_, rfl, by rw [← HF.out]; exact hown, hbl⟩
end Go.Proofs.Ytgabanndjiegdab
