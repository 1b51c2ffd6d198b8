/-
  What undoes a delta; the contract of inverted.
-/
import Derived.Test.YtcdnlkhjlgaaoaaDoorOtR
import Derived.Deep.RegionLaw
import Derived.Deep.AppendLies
import Derived.Laws.Cover4
import Derived.Laws.IdiomStrings
import Derived.Test.YtcdnlkhjlgaaoaaDoorOtI
import Derived.Test.YtcdnlkhjlgaaoaaDoorOtM
namespace Go.Proofs.YtcdnlkhjlgaaoaaDoor
open Go.ChangeShapes Go.WideShapes Go.ChangeAt Go.RowKit Go.PlainAid

/-- Code points at a place, with room for as many. -/
def RdR (w : World) (v : Value) (zs : List Int) : Prop :=
  ∃ ao cp, v = .slice ao zs.length cp ∧ zs.length ≤ cp ∧ (0 < zs.length → ∃ b off, ao = some ⟨b, off, none⟩ ∧ b < w.heap.size ∧ ∀ i, i < zs.length → w.cell? ⟨b, off + i, none⟩ = some (.int .i32 (zs.getD i 0)))
theorem rdr_rest {w : World} (b o len cp n : Nat) (zs : List Int) (hl : len = zs.length) (hn : n ≤ len) (hc : len ≤ cp) (hb : b < w.heap.size) (hz : ∀ i, i < zs.length → w.cell? ⟨b, o + i, none⟩ = some (.int .i32 (zs.getD i 0))) :
    RdR w (.slice (some ⟨b, o + n, none⟩) (len - n) (cp - n)) (zs.drop n) := by
  refine ⟨_, _, by rw [List.length_drop, hl], by rw [List.length_drop]; omega, fun h => ?_⟩
  rw [List.length_drop] at h
  refine ⟨b, o + n, rfl, hb, fun i hi => ?_⟩
  rw [List.length_drop] at hi
  rw [Nat.add_assoc, hz (n + i) (by omega)]
  simp
theorem rdr_none (w : World) (ao : Option Addr) (cp : Nat) (zs : List Int) (h : zs.length = 0) : RdR w (.slice ao 0 cp) zs := ⟨ao, cp, by rw [h], by omega, fun q => by omega⟩

/-- What undoes steps of code points. -/
def invO : List Int → List St → List OpD
  | _, [] => []
  | zs, .keep n :: l => ⟨1, n, ⟨#[]⟩⟩ :: invO (zs.drop n) l
  | zs, .rem n :: l => ⟨2, 0, mk (enc (zs.take n))⟩ :: invO (zs.drop n) l
  | zs, .ins t :: l => ⟨3, cpl t, ⟨#[]⟩⟩ :: invO zs l
theorem invO_len : ∀ (l : List St) (zs : List Int), (invO zs l).length = l.length
  | [], _ => rfl
  | .keep n :: l, zs => by rw [invO, List.length_cons, invO_len l]; rfl
  | .rem n :: l, zs => by rw [invO, List.length_cons, invO_len l]; rfl
  | .ins t :: l, zs => by rw [invO, List.length_cons, invO_len l]; rfl

theorem mk_append (a b : List UInt8) : mk a ++ mk b = mk (a ++ b) := by
  apply ByteArray.ext
  simp [mk]
theorem runes_enc : ∀ (zs : List Int) (a : List UInt8), (∀ z ∈ zs, szI z ≠ 0) → zs.foldl (fun r n => r ++ Utf8.encode n) (mk a) = mk (a ++ enc zs)
  | [], a, _ => by simp [enc]
  | z :: zs, a, h => by
    rw [List.foldl_cons, enc_rune (h z (by simp)), mk_append, runes_enc zs _ (fun y hy => h y (by simp [hy])), List.append_assoc]
    rfl
theorem runesBytes_enc {zs : List Int} (h : ∀ z ∈ zs, szI z ≠ 0) : runesBytes zs = mk (enc zs) := by
  have := runes_enc zs [] h
  rw [List.nil_append] at this
  exact this


theorem many_newTD (wr : World) (X : Obj) (l : List Value) (e : Nat) : ∀ j u, l[j]? = some u → (((wr.alloc X).alloc (.cells l.toArray e)).drew).cell? ((⟨wr.heap.size + 1, 0, none⟩ : Addr).add j) = some u := many_newT wr X l e
/-- A new box keeps what it has while a row of the call's own grows. -/
theorem app_kept {wr W' : World} {B e z n : Nat} {d : Value} {L : List Value} {X : Obj} {C : Obj} (hown : wr.ownsRow B e z d n L) (hg : ((wr.alloc X).alloc C).grownBy W' d.ownBlock) : W'.heap[wr.heap.size]? = some X := by
  have h1 : ((wr.alloc X).alloc C).heap[wr.heap.size]? = some X := (Below.heap_alloc _ _ _ (by simp)).trans (heap_alloc_new wr X)
  have ho : Only d.ownBlock.toList ((wr.alloc X).alloc C) W' := Only.of_grown hg (fun k e => by simp [e])
  refine only_heap h1 ho (fun hm => ?_)
  have := (hown.lt _ (by simpa using hm)).2
  omega
theorem app_below {w wr W' : World} {e z n : Nat} {d : Value} {L : List Value} {X : Obj} {C : Obj} (hbl : Below w.heap.size w wr) (hown : wr.ownsRow w.heap.size e z d n L) (hg : ((wr.alloc X).alloc C).grownBy W' d.ownBlock) : Below w.heap.size w W' := by
  have ho : Only d.ownBlock.toList wr W' := ((Only.alloc _ _ _).trans (Only.alloc _ _ _)).trans (Only.of_grown hg (fun k e => by simp [e]))
  exact hbl.trans (ho.below hbl.size (fun k hk => (hown.lt k (by simpa using hk)).1))

theorem app_facts {w wr W' : World} {g cap : Nat} {d : Value} {D : List OpD} {k : Int} {n : Int} {t : ByteArray} {X1 X2 X3 : Value} {C : Obj} (hbl : Below w.heap.size w wr) (hown : wr.ownsRow w.heap.size 43 3 d D.length (ocs D))
    (ho : W'.ownsRow w.heap.size 43 3 (.slice (some ⟨g, 0, none⟩) (D.length + 1) cap) (D.length + 1) (ocs D ++ [Value.int .i64 k, .int .i64 n, .string t])) (hg : (((wr.alloc (.cells #[X1, X2, X3] 43)).alloc C).drew).grownBy W' d.ownBlock) :
    W'.ownsRow w.heap.size 43 3 (.slice (some ⟨g, 0, none⟩) (D.length + 1) cap) (D ++ [(⟨k, n, t⟩ : OpD)]).length (ocs (D ++ [(⟨k, n, t⟩ : OpD)])) ∧ Below w.heap.size w W' ∧ W'.cell? ⟨wr.heap.size, 1, none⟩ = some X2 := by
  have hg' : ((wr.alloc (.cells #[X1, X2, X3] 43)).alloc C).grownBy W' d.ownBlock := ⟨hg.os, hg.tape, hg.output, hg.size, hg.block⟩
  exact ⟨own_op (o := ⟨k, n, t⟩) ho rfl, app_below hbl hown hg', cell_of_row _ _ 1 _ _ (0, 0) (app_kept hown hg')⟩

theorem rem_call {w wr w1 : World} {d : Value} {D : List OpD} {X1 X2 X3 : Value} (hbl : Below w.heap.size w wr) (hown : wr.ownsRow w.heap.size 43 3 d D.length (ocs D)) (hb : Below ((wr.alloc (.cells #[X1, X2, X3] 43)).drew).heap.size ((wr.alloc (.cells #[X1, X2, X3] 43)).drew) w1) :
    w1.ownsRow w.heap.size 43 3 d D.length (ocs D) ∧ w1.cell? ⟨wr.heap.size, 1, none⟩ = some X2 ∧ (∀ Z, (w1.alloc Z).cell? ⟨wr.heap.size, 1, none⟩ = some X2) ∧ Below w.heap.size w w1 ∧ wr.heap.size < w1.heap.size := by
  have hO : Only [] wr w1 := ((Only.alloc [] wr _).trans (Only.drew [] _)).trans (Only.of_below hb)
  have hx : w1.heap[wr.heap.size]? = some (.cells #[X1, X2, X3] 43 (0, 0)) := (hb.block _ (by show _ < (wr.alloc _).heap.size; simp)).trans (heap_alloc_new wr _)
  exact ⟨own_only hown hO (by simp), cell_of_row _ _ 1 _ _ (0, 0) hx, fun Z => cell_of_row _ _ 1 _ _ (0, 0) (only_heap hx (Only.alloc [] w1 Z) (by simp)), hbl.trans (hO.below hbl.size (by simp)), heap_lt hx⟩
theorem rem_app {w wr w1 W' : World} {g cap : Nat} {d : Value} {D : List OpD} {k : Int} {n : Int} {t : ByteArray} {X2 : Value} {C : Obj} (hbl : Below w.heap.size w w1) (hown : w1.ownsRow w.heap.size 43 3 d D.length (ocs D)) (hwr : wr.ownsRow w.heap.size 43 3 d D.length (ocs D)) (hlt : wr.heap.size < w1.heap.size) (hx : w1.cell? ⟨wr.heap.size, 1, none⟩ = some X2)
    (ho : W'.ownsRow w.heap.size 43 3 (.slice (some ⟨g, 0, none⟩) (D.length + 1) cap) (D.length + 1) (ocs D ++ [Value.int .i64 k, .int .i64 n, .string t])) (hg : (w1.alloc C).grownBy W' d.ownBlock) :
    W'.ownsRow w.heap.size 43 3 (.slice (some ⟨g, 0, none⟩) (D.length + 1) cap) (D ++ [(⟨k, n, t⟩ : OpD)]).length (ocs (D ++ [(⟨k, n, t⟩ : OpD)])) ∧ Below w.heap.size w W' ∧ W'.cell? ⟨wr.heap.size, 1, none⟩ = some X2 := by
  have ho2 : Only d.ownBlock.toList w1 W' := (Only.alloc _ _ _).trans (Only.of_grown hg (fun k e => by simp [e]))
  refine ⟨own_op (o := ⟨k, n, t⟩) ho rfl, hbl.trans (ho2.below hbl.size (fun k hk => (hown.lt k (by simpa using hk)).1)), ?_⟩
  have e := ho2.block wr.heap.size hlt (fun hm => by have := (hwr.lt _ (by simpa using hm)).2; omega)
  rw [← hx]
  unfold World.cell?
  rw [e]

end Go.Proofs.YtcdnlkhjlgaaoaaDoor

/-
  The contract of Invert.
-/
namespace Go.Proofs.YtcdnlkhjlgaaoaaDoor
open Go.ChangeShapes Go.WideShapes Go.ChangeAt Go.RowKit Go.PlainAid

theorem runesFrom_at {s : ByteArray} {n : Nat} (hv : Valid s n) : ∀ (bound k : Nat) (acc : Array Value), k ≤ n → n - k ≤ bound → Conv.runesFrom s bound (pos s k) acc = acc ++ (((List.range' k (n - k)).map fun j => Value.int .i32 (pt s j)).toArray)
  | 0, k, acc, hk, hb => by
    have : n - k = 0 := by omega
    rw [this]
    simp [Conv.runesFrom]
  | b + 1, k, acc, hk, hb => by
    rw [Conv.runesFrom]
    by_cases h : k = n
    · subst h
      rw [if_neg (by rw [hv.2]; omega)]
      simp
    · have h1 := hv.1 k (by omega)
      have hd := dec_pos hv (k := k) (by omega)
      rw [if_pos h1.1]
      simp only
      rw [hd.2.1, show (Int.ofNat (Utf8.decode s (pos s k)).1 : Int) = pt s k from hd.1, runesFrom_at hv b (k + 1) _ (by omega) (by omega), show n - k = (n - (k + 1)) + 1 by omega, List.range'_succ]
      simp
theorem runes_pts {s : ByteArray} (h : 0 ≤ cpl s) : Conv.runesFrom s s.size 0 #[] = ((pts s).map (Value.int .i32)).toArray := by
  have hv := cpl_valid h
  have hp := pos_le hv.1 _ (Nat.le_refl _)
  have := runesFrom_at hv s.size 0 #[] (by omega) (by omega)
  rw [show pos s 0 = 0 from rfl] at this
  rw [this, pts, ptL]
  simp [List.range_eq_range']

/-- What Invert gives. -/
def inR (s : ByteArray) (D : List OpD) : List OpD × Int :=
  if (apR s D).2 = 0 then (jn (stR (invO (pts s) (stR D))), chk (invO (pts s) (stR D))) else ([], (apR s D).2)

theorem rdr_new {W : World} {zs : List Int} {cap : Nat} (hc : zs.length ≤ cap) (e : TypeId) :
    RdR (W.alloc (.cells ((zs.map (Value.int .i32)).toArray ++ Array.replicate (cap - zs.length) (.int .i32 0)) e)) (.slice (some ⟨W.heap.size, 0, none⟩) zs.length cap) zs := by
  refine ⟨_, _, rfl, hc, fun _ => ⟨W.heap.size, 0, rfl, by simp, fun i hi => ?_⟩⟩
  have h := heap_alloc_new W (.cells ((zs.map (Value.int .i32)).toArray ++ Array.replicate (cap - zs.length) (.int .i32 0)) e)
  unfold World.cell?
  rw [h]
  simp only [Nat.zero_add]
  rw [Array.getElem?_append_left (by simpa using hi)]
  simp [hi]

theorem invO_in : ∀ (l : List St) (zs : List Int), zs.length ≤ 1000 → ∀ o ∈ invO zs l, o.In
  | [], _, _, o, ho => by simp [invO] at ho
  | .keep n :: l, zs, h, o, ho => by
    rw [invO] at ho
    rcases List.mem_cons.1 ho with rfl | ho
    · exact Nat.zero_le _
    · exact invO_in l _ (by rw [List.length_drop]; omega) o ho
  | .rem n :: l, zs, h, o, ho => by
    rw [invO] at ho
    rcases List.mem_cons.1 ho with rfl | ho
    · have := enc_len (zs.take n)
      have h2 : (zs.take n).length ≤ 1000 := by rw [List.length_take]; omega
      show (mk _).size ≤ _
      rw [mk_size]
      omega
    · exact invO_in l _ (by rw [List.length_drop]; omega) o ho
  | .ins t :: l, zs, h, o, ho => by
    rw [invO] at ho
    rcases List.mem_cons.1 ho with rfl | ho
    · exact Nat.zero_le _
    · exact invO_in l _ h o ho

theorem apR_zero' {s : ByteArray} {A : List OpD} (h : (apR s A).2 = 0) : 0 ≤ cpl s ∧ chk A = 0 ∧ (bsum (stR A) : Int) = cpl s := by
  rw [apR] at h
  split at h
  · simp at h
  · rename_i c1
    split at h
    · rename_i c2; exact absurd h c2
    · rename_i c2
      split at h
      · simp at h
      · rename_i c3
        exact ⟨by omega, by simpa using c2, by simpa using c3⟩

end Go.Proofs.YtcdnlkhjlgaaoaaDoor

/-
  What is composed does what the two do: on code points. No walk.
-/
namespace Go.Proofs.YtcdnlkhjlgaaoaaDoor
open Go.RowKit Go.PlainAid

theorem apM_len (zs : List Int) (m : List (Nat ⊕ Int)) : (apM zs m).length = m.length := by simp [apM]
theorem ap_len {l : List St} {zs : List Int} (h : bsum l ≤ zs.length) : (apRun zs l).length = tsum l := by
  have e := apRun_marks l zs 0 (by omega)
  rw [List.drop_zero] at e
  rw [e, apM_len, tgt_targ, tgt_uw]
theorem ap_cmp {a b l : List St} {zs : List Int} (h : Eqv (uw l) (cmp (uw a) (uw b))) (ht : tsum a = bsum b) (hb : bsum a ≤ zs.length) (hl : bsum l ≤ zs.length) : apRun zs l = apRun (apRun zs a) b := by
  have hw : tgtU (uw a) = baseU (uw b) := by rw [tgt_uw, base_uw, ht]
  have e1 := apRun_marks l zs 0 (by omega)
  have e2 := apRun_marks a zs 0 (by omega)
  have e3 := apRun_marks b (apRun zs a) 0 (by rw [ap_len hb, ht]; omega)
  rw [List.drop_zero] at e1 e2 e3
  rw [e1, e3, h.2, cmp_marks _ _ 0 hw]
  simp only [apM, List.map_map]
  refine List.map_congr_left (fun m hm => ?_)
  cases m with
  | inr z => rfl
  | inl j =>
    have hj := marks_lt _ 0 j hm
    have hlj : j < (mkU 0 (uw a)).length := by rw [tgt_targ]; omega
    rw [e2]
    simp [apM, sub, List.getD_eq_getElem?_getD, List.getElem?_eq_getElem hlj]
end Go.Proofs.YtcdnlkhjlgaaoaaDoor

/-
  What is composed does what the two do. No walk.
-/
namespace Go.Proofs.YtcdnlkhjlgaaoaaDoor
open Go.RowKit Go.PlainAid

theorem apR_zero {s : ByteArray} {A : List OpD} (h : (apR s A).2 = 0) : 0 ≤ cpl s ∧ chk A = 0 ∧ (bsum (stR A) : Int) = cpl s ∧ (apR s A).1 = mk (enc (apRun (pts s) (stR A))) := by
  rw [apR] at h ⊢
  split at h
  · simp at h
  · rename_i c1
    split at h
    · rename_i c2; exact absurd h c2
    · rename_i c2
      split at h
      · simp at h
      · rename_i c3
        rw [if_neg c1, if_neg c2, if_neg c3]
        exact ⟨by omega, by simpa using c2, by simpa using c3, rfl⟩
theorem apR_of {s : ByteArray} {A : List OpD} (h0 : 0 ≤ cpl s) (h1 : chk A = 0) (h2 : (bsum (stR A) : Int) = cpl s) : apR s A = (mk (enc (apRun (pts s) (stR A))), 0) := by
  rw [apR, if_neg (by omega), if_neg (by simpa using h1), if_neg (by simpa using h2)]

theorem does {A B : List OpD} (iA : ∀ o ∈ A, o.In) (iB : ∀ o ∈ B, o.In) {s : ByteArray} (h : (apR s A).2 = 0) :
    ((apR (apR s A).1 B).2 ≠ 0 → (coR A B).2 ≠ 0) ∧ ((apR (apR s A).1 B).2 = 0 → (coR A B).2 = 0 ∧ apR s (coR A B).1 = apR (apR s A).1 B) := by
  obtain ⟨s0, s1, s2, s3⟩ := apR_zero h
  have okA := stR_ok iA
  have okB := stR_ok iB
  have hps := pts_len (t := s) s0
  have hle : bsum (stR A) ≤ (pts s).length := by omega
  have hpo := apRun_ok (stR A) (pts s) okA (pts_ok s0)
  have hce := cpl_enc hpo
  have hal := ap_len hle
  have ht : cpl (apR s A).1 = (tsum (stR A) : Int) := by rw [s3, hce.1, hal]
  have hpt : pts (apR s A).1 = apRun (pts s) (stR A) := by rw [s3, hce.2]
  refine ⟨fun hn hz => ?_, fun hz => ?_⟩
  · obtain ⟨_, c2, c3⟩ := coR_zero hz
    exact hn (by rw [apR_of (by omega) c2 (by rw [ht, c3])])
  · obtain ⟨t0, t1, t2, t3⟩ := apR_zero hz
    have ct : tsum (stR A) = bsum (stR B) := by rw [ht] at t2; omega
    have hco := (coR_ok iA iB s1 t1 ct).1
    obtain ⟨x0, x1, x2, x3, x4, x5⟩ := co_facts iA iB hco
    refine ⟨hco, ?_⟩
    rw [apR_of s0 x1 (by rw [x4, s2]), apR_of t0 t1 t2, hpt]
    obtain ⟨_, _, n3, _, n5⟩ := normal_facts okA (stR_bd A).1 (stR_bd A).2
    obtain ⟨_, _, m3, m4, _⟩ := normal_facts okB (stR_bd B).1 (stR_bd B).2
    have he : Eqv (cpW A B) (cmp (uw (stR A)) (uw (stR B))) := cmp_eqv n3 m3 (by rw [tgt_uw, base_uw, n5, m4, ct])
    rw [ap_cmp (x3.trans he) ct hle (by rw [x4]; exact hle)]
end Go.Proofs.YtcdnlkhjlgaaoaaDoor

/-
  What undoes a delta, as a word: done it gives the text again, undone it is the delta. No walk.
-/
namespace Go.Proofs.YtcdnlkhjlgaaoaaDoor
open Go.RowKit Go.PlainAid

/-- What undoes a word of code points. -/
def invU : List Int → List U → List U
  | _, [] => []
  | zs, .K :: l => .K :: invU zs.tail l
  | zs, .R :: l => .I (zs.headD 0) :: invU zs.tail l
  | zs, .I _ :: l => .R :: invU zs l
/-- What a word gives of code points. -/
def giv : List Int → List U → List Int
  | _, [] => []
  | zs, .K :: l => zs.headD 0 :: giv zs.tail l
  | zs, .R :: l => giv zs.tail l
  | zs, .I z :: l => z :: giv zs l
theorem inv_inv : ∀ (l : List U) (zs : List Int), invU (giv zs l) (invU zs l) = l
  | [], _ => rfl
  | .K :: l, zs => by simp only [invU, giv, List.tail_cons]; rw [inv_inv l]
  | .R :: l, zs => by simp only [invU, giv]; rw [inv_inv l]
  | .I z :: l, zs => by simp only [invU, giv, List.tail_cons, List.headD_cons]; rw [inv_inv l]
theorem giv_inv : ∀ (l : List U) (zs : List Int), baseU l = zs.length → giv (giv zs l) (invU zs l) = zs
  | [], zs, h => by
    have : zs = [] := List.eq_nil_of_length_eq_zero (by simpa [baseU] using h.symm)
    subst this; rfl
  | .K :: l, [], h => by simp [baseU] at h
  | .K :: l, z :: zs, h => by
    simp only [baseU, List.length_cons] at h
    simp only [invU, giv, List.tail_cons, List.headD_cons]
    rw [giv_inv l zs (by omega)]
  | .R :: l, [], h => by simp [baseU] at h
  | .R :: l, z :: zs, h => by
    simp only [baseU, List.length_cons] at h
    simp only [invU, giv, List.tail_cons, List.headD_cons]
    rw [giv_inv l zs (by omega)]
  | .I z :: l, zs, h => by
    simp only [baseU] at h
    simp only [invU, giv, List.tail_cons]
    rw [giv_inv l zs h]
theorem inv_base : ∀ (l : List U) (zs : List Int), baseU (invU zs l) = tgtU l
  | [], _ => rfl
  | .K :: l, zs => by simp only [invU, baseU, tgtU]; rw [inv_base l]; omega
  | .R :: l, zs => by simp only [invU, baseU, tgtU]; rw [inv_base l]
  | .I z :: l, zs => by simp only [invU, baseU, tgtU]; rw [inv_base l]; omega
theorem inv_tgt : ∀ (l : List U) (zs : List Int), tgtU (invU zs l) = baseU l
  | [], _ => rfl
  | .K :: l, zs => by simp only [invU, baseU, tgtU]; rw [inv_tgt l]; omega
  | .R :: l, zs => by simp only [invU, baseU, tgtU]; rw [inv_tgt l]; omega
  | .I z :: l, zs => by simp only [invU, baseU, tgtU]; rw [inv_tgt l]
theorem giv_len : ∀ (l : List U) (zs : List Int), (giv zs l).length = tgtU l
  | [], _ => rfl
  | .K :: l, zs => by simp only [giv, tgtU, List.length_cons]; rw [giv_len l]
  | .R :: l, zs => by simp only [giv, tgtU]; rw [giv_len l]
  | .I z :: l, zs => by simp only [giv, tgtU, List.length_cons]; rw [giv_len l]

/-- What is given hangs only on the marks. -/
theorem giv_marks : ∀ (l : List U) (zs : List Int) (a : Nat), a + baseU l ≤ zs.length → giv (zs.drop a) l = apM zs (mkU a l)
  | [], _, _, _ => rfl
  | .K :: l, zs, a, h => by
    simp only [baseU] at h
    have ih := giv_marks l zs (a + 1) (by omega)
    have e : (zs.drop a).tail = zs.drop (a + 1) := by rw [List.tail_drop]
    have e2 : (zs.drop a).headD 0 = zs.getD a 0 := by
      rw [List.drop_eq_getElem_cons (show a < zs.length by omega), List.headD_cons, List.getD_eq_getElem?_getD, List.getElem?_eq_getElem (show a < zs.length by omega)]; rfl
    simp only [giv, mkU, apM, List.map_cons]
    rw [e, e2, ih]; rfl
  | .R :: l, zs, a, h => by
    simp only [baseU] at h
    have ih := giv_marks l zs (a + 1) (by omega)
    simp only [giv, mkU]
    rw [List.tail_drop, ih]
  | .I z :: l, zs, a, h => by
    simp only [baseU] at h
    have ih := giv_marks l zs a h
    simp only [giv, mkU, apM, List.map_cons]
    rw [ih]; rfl
theorem giv_run {l : List St} {zs : List Int} (h : bsum l ≤ zs.length) : apRun zs l = giv zs (uw l) := by
  have e1 := apRun_marks l zs 0 (by omega)
  have e2 := giv_marks (uw l) zs 0 (by rw [base_uw]; omega)
  rw [List.drop_zero] at e1 e2
  rw [e1, e2]

/-- The marks of what undoes, out of the marks. -/
def mkI (zs : List Int) (n : Nat) : Nat → Nat → List (Nat ⊕ Int) → List (Nat ⊕ Int)
  | i, _, [] => ((zs.drop i).take (n - i)).map .inr
  | i, j, .inr _ :: m => mkI zs n i (j + 1) m
  | i, j, .inl p :: m => ((zs.drop i).take (p - i)).map .inr ++ (.inl j :: mkI zs n (p + 1) (j + 1) m)
theorem take_one {zs : List Int} {i q : Nat} (hi : i < zs.length) (hq : i < q) : (zs.drop i).take (q - i) = zs[i] :: (zs.drop (i + 1)).take (q - (i + 1)) := by
  rw [List.drop_eq_getElem_cons hi, show q - i = (q - (i + 1)) + 1 by omega, List.take_succ_cons]
theorem mkI_one {zs : List Int} {n i : Nat} (hi : i < zs.length) (hn : i < n) : ∀ (m : List (Nat ⊕ Int)) (j : Nat), (∀ p, Sum.inl p ∈ m → i < p) → mkI zs n i j m = .inr zs[i] :: mkI zs n (i + 1) j m
  | [], j, _ => by simp only [mkI]; rw [take_one hi hn]; rfl
  | .inr z :: m, j, h => by simp only [mkI]; exact mkI_one hi hn m (j + 1) (fun p hp => h p (by simp [hp]))
  | .inl p :: m, j, h => by
    have hp := h p (by simp)
    simp only [mkI]
    rw [take_one hi hp]; rfl
theorem marks_ge : ∀ (l : List U) (k j : Nat), Sum.inl j ∈ mkU k l → k ≤ j
  | [], _, _, h => by simp [mkU] at h
  | .K :: l, k, j, h => by
    simp only [mkU, List.mem_cons] at h
    rcases h with h | h
    · cases h; omega
    · have := marks_ge l _ _ h; omega
  | .R :: l, k, j, h => by have := marks_ge l _ _ (by simpa [mkU] using h); omega
  | .I z :: l, k, j, h => by
    simp only [mkU, List.mem_cons, reduceCtorEq, false_or] at h
    exact marks_ge l _ _ h
theorem inv_marks : ∀ (l : List U) (zs : List Int) (n i j : Nat), i + baseU l = n → n ≤ zs.length → mkU j (invU (zs.drop i) l) = mkI zs n i j (mkU i l)
  | [], zs, n, i, j, h, hn => by
    simp only [baseU] at h
    simp [invU, mkU, mkI, show n - i = 0 by omega]
  | .K :: l, zs, n, i, j, h, hn => by
    simp only [baseU] at h
    have ih := inv_marks l zs n (i + 1) (j + 1) (by omega) hn
    simp only [invU, mkU, mkI]
    rw [List.tail_drop, ih]
    simp
  | .R :: l, zs, n, i, j, h, hn => by
    simp only [baseU] at h
    have ih := inv_marks l zs n (i + 1) j (by omega) hn
    have hi : i < zs.length := by omega
    simp only [invU, mkU]
    rw [List.tail_drop, ih, mkI_one hi (by omega) _ _ (fun p hp => by have := marks_ge l _ _ hp; omega), List.drop_eq_getElem_cons hi, List.headD_cons]
  | .I z :: l, zs, n, i, j, h, hn => by
    simp only [baseU] at h
    have ih := inv_marks l zs n i (j + 1) h hn
    simp only [invU, mkU, mkI]
    exact ih
/-- What undoes hangs only on the marks. -/
theorem inv_eqv {a b : List U} {zs : List Int} (h : Eqv a b) (hb : baseU a = zs.length) : Eqv (invU zs a) (invU zs b) := by
  refine ⟨by rw [inv_base, inv_base, eqv_tgt h], fun j => ?_⟩
  have e1 := inv_marks a zs zs.length 0 j (by omega) (Nat.le_refl _)
  have e2 := inv_marks b zs zs.length 0 j (by rw [← h.1]; omega) (Nat.le_refl _)
  rw [List.drop_zero] at e1 e2
  rw [e1, e2, h.2]

/-! ### The operations -/

theorem inv_Ks : ∀ (n : Nat) (zs : List Int) (l : List U), invU zs (List.replicate n .K ++ l) = List.replicate n .K ++ invU (zs.drop n) l
  | 0, zs, l => by simp
  | n + 1, zs, l => by rw [List.replicate_succ, List.cons_append, invU, inv_Ks n, List.cons_append, ← List.drop_one, List.drop_drop, Nat.add_comm 1 n]
theorem inv_Rs : ∀ (n : Nat) (zs : List Int) (l : List U), n ≤ zs.length → invU zs (List.replicate n .R ++ l) = (zs.take n).map .I ++ invU (zs.drop n) l
  | 0, zs, l, _ => by simp
  | n + 1, [], l, h => by simp at h
  | n + 1, z :: zs, l, h => by
    rw [List.replicate_succ, List.cons_append, invU, List.tail_cons, inv_Rs n zs l (by simpa using h)]
    simp
theorem inv_Is : ∀ (p : List Int) (zs : List Int) (l : List U), invU zs (p.map .I ++ l) = List.replicate p.length .R ++ invU zs l
  | [], zs, l => by simp
  | z :: p, zs, l => by rw [List.map_cons, List.cons_append, invU, inv_Is p, List.length_cons, List.replicate_succ, List.cons_append]
/-- What undoes steps, as point steps. -/
def invP : List Int → List St → List PS
  | _, [] => []
  | zs, .keep n :: l => .keep n :: invP (zs.drop n) l
  | zs, .rem n :: l => .ins (zs.take n) :: invP (zs.drop n) l
  | zs, .ins t :: l => .rem (pts t).length :: invP zs l
theorem invP_facts : ∀ (l : List St) (zs : List Int), (∀ s ∈ l, s.Ok) → bsum l = zs.length → (∀ z ∈ zs, szI z ≠ 0) → (invP zs l).map PS.op = invO zs l ∧ pw (invP zs l) = invU zs (uw l) ∧ ∀ s ∈ invP zs l, s.Ok
  | [], zs, _, _, _ => ⟨rfl, rfl, by simp [invP]⟩
  | .keep n :: l, zs, ho, hb, hz => by
    have hs := ho (.keep n) (by simp)
    have e1 : bsum (.keep n :: l) = n + bsum l := by simp [bsum, St.b]
    rw [e1] at hb
    obtain ⟨i1, i2, i3⟩ := invP_facts l (zs.drop n) (fun s h => ho s (by simp [h])) (by rw [List.length_drop]; omega) (fun z h => hz z (List.mem_of_mem_drop h))
    refine ⟨by rw [invP, invO, List.map_cons, i1]; rfl, ?_, ?_⟩
    · rw [invP, pw_cons, i2, uw_cons]
      exact (inv_Ks n zs (uw l)).symm
    · rw [invP]
      intro s h
      rcases List.mem_cons.1 h with rfl | h
      · exact hs.1
      · exact i3 s h
  | .rem n :: l, zs, ho, hb, hz => by
    have hs := ho (.rem n) (by simp)
    have e1 : bsum (.rem n :: l) = n + bsum l := by simp [bsum, St.b]
    rw [e1] at hb
    obtain ⟨i1, i2, i3⟩ := invP_facts l (zs.drop n) (fun s h => ho s (by simp [h])) (by rw [List.length_drop]; omega) (fun z h => hz z (List.mem_of_mem_drop h))
    refine ⟨by rw [invP, invO, List.map_cons, i1]; rfl, ?_, ?_⟩
    · rw [invP, pw_cons, i2, uw_cons]
      exact (inv_Rs n zs (uw l) (by omega)).symm
    · rw [invP]
      intro s h
      rcases List.mem_cons.1 h with rfl | h
      · exact ⟨by rw [List.length_take]; have := hs.1; omega, fun z h => hz z (List.mem_of_mem_take h)⟩
      · exact i3 s h
  | .ins t :: l, zs, ho, hb, hz => by
    have hs := ho (.ins t) (by simp)
    have h0 : 0 < cpl t := hs.1
    have e1 : bsum (.ins t :: l) = bsum l := by simp [bsum, St.b]
    rw [e1] at hb
    have hp := pts_len (t := t) (by omega)
    obtain ⟨i1, i2, i3⟩ := invP_facts l zs (fun s h => ho s (by simp [h])) hb hz
    refine ⟨?_, ?_, ?_⟩
    · rw [invP, invO, List.map_cons, i1]
      have : (PS.rem (pts t).length).op = ⟨3, cpl t, ⟨#[]⟩⟩ := by
        show (⟨3, ((pts t).length : Nat), ⟨#[]⟩⟩ : OpD) = _
        rw [hp]
      rw [this]
    · rw [invP, pw_cons, i2, uw_cons]
      exact (inv_Is (pts t) zs (uw l)).symm
    · rw [invP]
      intro s h
      rcases List.mem_cons.1 h with rfl | h
      · show 0 < (pts t).length; omega
      · exact i3 s h

/-- What Invert gives of what may be done. -/
theorem in_facts {s : ByteArray} {D : List OpD} (iD : ∀ o ∈ D, o.In) (h : (apR s D).2 = 0) :
    (inR s D).2 = 0 ∧ (∀ o ∈ (inR s D).1, o.In) ∧ chk (inR s D).1 = 0 ∧ Eqv (uw (stR (inR s D).1)) (invU (pts s) (uw (stR D))) ∧ bsum (stR (inR s D).1) = tsum (stR D) ∧ (inR s D).1 = jn (stR (invO (pts s) (stR D))) ∧ uw (stR (invO (pts s) (stR D))) = invU (pts s) (uw (stR D)) := by
  obtain ⟨s0, s1, s2⟩ := apR_zero' h
  have hps := pts_len (t := s) s0
  have ho := stR_ok iD
  have bd := stR_bd D
  have hbs : bsum (stR D) = (pts s).length := by omega
  obtain ⟨f1, f2, f3⟩ := invP_facts (stR D) (pts s) ho hbs (pts_ok s0)
  have b1 : baseU (pw (invP (pts s) (stR D))) = tsum (stR D) := by rw [f2, inv_base, tgt_uw]
  have t1 : targU (pw (invP (pts s) (stR D))) = bsum (stR D) := by rw [targU, tgt_targ, f2, inv_tgt, base_uw]
  obtain ⟨c1, c2⟩ := chk_ps f3 (by omega) (by omega)
  rw [f1] at c1 c2
  have e : inR s D = (jn (stR (invO (pts s) (stR D))), 0) := by rw [inR, if_pos h, c1]
  have hin := invO_in (stR D) (pts s) (by omega)
  have hok := stR_ok hin
  have bd2 := stR_bd (invO (pts s) (stR D))
  obtain ⟨n1, n2, n3, n4, n5⟩ := normal_facts hok bd2.1 bd2.2
  have hw : uw (stR (invO (pts s) (stR D))) = invU (pts s) (uw (stR D)) := by rw [c2, uw_st f3, f2]
  rw [e]
  refine ⟨rfl, (jn_in hok bd2.1 bd2.2).2, n1, ?_, ?_, rfl, hw⟩
  · rw [hw] at n3; exact n3
  · rw [n4, ← base_uw, hw, inv_base, tgt_uw]

/-- Done, undone; undone twice. -/
theorem undoes {s : ByteArray} {D : List OpD} (iD : ∀ o ∈ D, o.In) (h : (apR s D).2 = 0) :
    (inR s D).2 = 0 ∧ apR (apR s D).1 (inR s D).1 = (s, 0) ∧ inR (apR s D).1 (inR s D).1 = (jn (stR D), 0) := by
  obtain ⟨v1, v2, v3, v4, v5, v6, v7⟩ := in_facts iD h
  obtain ⟨s0, s1, s2, s3⟩ := apR_zero h
  have ho := stR_ok iD
  have hps := pts_len (t := s) s0
  have bd := stR_bd D
  have hpo := apRun_ok (stR D) (pts s) ho (pts_ok s0)
  have hce := cpl_enc hpo
  have hg : apRun (pts s) (stR D) = giv (pts s) (uw (stR D)) := giv_run (by omega)
  have hct : cpl (apR s D).1 = (tsum (stR D) : Int) := by rw [s3, hce.1, ap_len (by omega)]
  have hpt : pts (apR s D).1 = giv (pts s) (uw (stR D)) := by rw [s3, hce.2, hg]
  have hbu : baseU (uw (stR D)) = (pts s).length := by rw [base_uw]; omega
  have hlen : (giv (pts s) (uw (stR D))).length = tsum (stR D) := by rw [giv_len, tgt_uw]
  have hback : (apR (apR s D).1 (inR s D).1).2 = 0 ∧ (apR (apR s D).1 (inR s D).1) = (s, 0) := by
    have e := apR_of (s := (apR s D).1) (A := (inR s D).1) (by omega) v3 (by rw [v5, hct])
    have e2 : apRun (giv (pts s) (uw (stR D))) (stR (inR s D).1) = pts s := by
      rw [giv_run (by rw [v5, hlen]; omega)]
      have g1 := giv_marks (uw (stR (inR s D).1)) (giv (pts s) (uw (stR D))) 0 (by rw [base_uw, v5, hlen]; omega)
      have g2 := giv_marks (invU (pts s) (uw (stR D))) (giv (pts s) (uw (stR D))) 0 (by rw [inv_base, tgt_uw, hlen]; omega)
      rw [List.drop_zero] at g1 g2
      rw [g1, v4.2, ← g2, giv_inv _ _ hbu]
    rw [hpt, e2] at e
    have e3 : mk (enc (pts s)) = s := (whole_eq (cpl_valid s0)).1
    rw [e3] at e
    exact ⟨by rw [e], e⟩
  refine ⟨v1, hback.2, ?_⟩
  obtain ⟨w1, w2, w3, w4, w5, w6, w7⟩ := in_facts v2 hback.1
  have hr : (inR (apR s D).1 (inR s D).1).1 = jn (stR D) := by
    rw [w6]
    refine jn_eqv (stR_ok (invO_in _ _ ?_)) ho ?_
    · rw [hpt, hlen]; omega
    · rw [w7, hpt]
      have q1 := inv_eqv (zs := giv (pts s) (uw (stR D))) v4 (by rw [base_uw, v5, hlen])
      rw [inv_inv] at q1
      exact q1
  exact Prod.ext hr w1
end Go.Proofs.YtcdnlkhjlgaaoaaDoor
