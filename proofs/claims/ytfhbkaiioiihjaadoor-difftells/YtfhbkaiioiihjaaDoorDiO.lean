/-
  The reference's Diff: its form on its way.
-/
import Derived.Test.YtfhbkaiioiihjaaDoorDiN
import Derived.Test.YtfhbkaiioiihjaaDoorDrI
namespace Go.Proofs.YtfhbkaiioiihjaaDoor
open Go.ChangeShapes Go.WideShapes Go.ChangeAt Go.RowKit Go.PlainAid

theorem Tryd.infoStr : (Tryd.prog.info? 9).map (fun i => (i.zero, i.size, i.bytes)) = some (some (.string ⟨#[]⟩), 1, 16) := by kernel_rfl
theorem Tryd.infoBoo : (Tryd.prog.info? 4).map (fun i => (i.zero, i.size, i.bytes)) = some (some (.bool false), 1, 1) := by kernel_rfl
set_option maxRecDepth 20000 in
theorem make_str (n : Nat) (hn : n ≤ 1001) (W : World) : (Instr.makeSlice 52 (.int .i64 (n : Int)) (.int .i64 (n : Int))).run Tryd.prog W = .ok (.slice (some ⟨W.heap.size, 0, none⟩) n n) (W.alloc (.cells ((List.replicate n (⟨#[]⟩ : ByteArray)).map Value.string).toArray 9)) := by
  obtain ⟨i0, hi, hz0, hz1, hz2⟩ := info_parts Tryd.infoStr
  have h := run_make (P := Tryd.prog) W 52 9 i0 (.string ⟨#[]⟩) Tryd.underlying52 hi hz0 .i64 .i64 (n : Int) (n : Int) (by omega) (by omega) (by rw [hz2]; omega) (by omega)
  rw [h, hz1]
  simp only [Int.toNat_natCast, Nat.mul_one]
  congr 3
  apply Array.ext'
  rw [show (Value.string (⟨#[]⟩ : ByteArray)).cells = #[.string ⟨#[]⟩] from rfl, toList_madeCells_one]
  simp
set_option maxRecDepth 20000 in
theorem make_boo (n : Nat) (hn : n ≤ 1001) (W : World) : (Instr.makeSlice 53 (.int .i64 (n : Int)) (.int .i64 (n : Int))).run Tryd.prog W = .ok (.slice (some ⟨W.heap.size, 0, none⟩) n n) (W.alloc (.cells ((List.replicate n false).map Value.bool).toArray 4)) := by
  obtain ⟨i0, hi, hz0, hz1, hz2⟩ := info_parts Tryd.infoBoo
  have h := run_make (P := Tryd.prog) W 53 4 i0 (.bool false) Tryd.underlying53 hi hz0 .i64 .i64 (n : Int) (n : Int) (by omega) (by omega) (by rw [hz2]; omega) (by omega)
  rw [h, hz1]
  simp only [Int.toNat_natCast, Nat.mul_one]
  congr 3
  apply Array.ext'
  rw [show (Value.bool false).cells = #[.bool false] from rfl, toList_madeCells_one]
  simp

section
variable (u : World) (a b c : Obj)
theorem al2 : (((u.alloc a).alloc b).alloc c).drew.heap[u.heap.size + 1 + 1]? = some c := by
  have := heap_alloc_new ((u.alloc a).alloc b) c
  rw [World.size_alloc, World.size_alloc] at this
  exact this
theorem al1 : (((u.alloc a).alloc b).alloc c).drew.heap[u.heap.size + 1]? = some b := by
  have h1 := heap_alloc_new (u.alloc a) b
  have h2 := Below.heap_alloc ((u.alloc a).alloc b) c (u.alloc a).heap.size (by simp)
  have := h2.trans h1
  rw [World.size_alloc] at this
  exact this
theorem al0 : (((u.alloc a).alloc b).alloc c).drew.heap[u.heap.size]? = some a := by
  have h1 := heap_alloc_new u a
  have h2 := Below.heap_alloc (u.alloc a) b u.heap.size (by simp)
  have h3 := Below.heap_alloc ((u.alloc a).alloc b) c u.heap.size (by simp; omega)
  exact h3.trans (h2.trans h1)
theorem alb : Below u.heap.size u (((u.alloc a).alloc b).alloc c).drew := ((((Below.refl _ u).alloc (Nat.le_refl _) a).alloc (by simp) b).alloc (by simp; omega) c).drew
theorem alr (k : Nat) (hk : k < u.heap.size) : (((u.alloc a).alloc b).alloc c).drew.heap[k]? = u.heap[k]? := (alb u a b c).block k hk
end
/-- A form on its way, in memory. -/
structure FB (n : Nat) (w W : World) (pb gi gg : Nat) (ins : List ByteArray) (gone : List Bool) : Prop where
  box : W.heap[pb]? = some (.cells #[.slice (some ⟨gi, 0, none⟩) (n + 1) (n + 1), .slice (some ⟨gg, 0, none⟩) n n] 55)
  ir : W.heap[gi]? = some (.cells (ins.map Value.string).toArray 9)
  gr : W.heap[gg]? = some (.cells (gone.map Value.bool).toArray 4)
  pb0 : w.heap.size ≤ pb
  gi0 : w.heap.size ≤ gi
  gg0 : w.heap.size ≤ gg
  bel : Below w.heap.size w W
section
variable {n : Nat} {w W W' : World} {pb gi gg : Nat} {ins : List ByteArray} {gone : List Bool}
theorem FB.setG (h : FB n w W pb gi gg ins gone) (j : Nat) (b : Bool) : FB n w (W.setCell ⟨gg, j, none⟩ (.bool b)) pb gi gg ins (gone.set j b) := by
  have n1 := heap_ne h.box h.gr (by decide)
  have n2 := heap_ne h.ir h.gr (by decide)
  refine ⟨?_, ?_, ?_, h.pb0, h.gi0, h.gg0, below_set h.bel h.gg0 h.bel.size⟩
  · rw [Below.heap_setCell W ⟨gg, j, none⟩ _ pb n1]; exact h.box
  · rw [Below.heap_setCell W ⟨gg, j, none⟩ _ gi n2]; exact h.ir
  · rw [heap_setCell h.gr j _]
    simp
theorem FB.setI (h : FB n w W pb gi gg ins gone) (j : Nat) (t : ByteArray) : FB n w (W.setCell ⟨gi, j, none⟩ (.string t)) pb gi gg (ins.set j t) gone := by
  have n1 := heap_ne h.box h.ir (by decide)
  have n2 := heap_ne h.gr h.ir (by decide)
  refine ⟨?_, ?_, ?_, h.pb0, h.gi0, h.gg0, below_set h.bel h.gi0 h.bel.size⟩
  · rw [Below.heap_setCell W ⟨gi, j, none⟩ _ pb n1]; exact h.box
  · rw [heap_setCell h.ir j _]
    simp
  · rw [Below.heap_setCell W ⟨gi, j, none⟩ _ gg n2]; exact h.gr
theorem FB.drew (h : FB n w W pb gi gg ins gone) : FB n w W.drew pb gi gg ins gone := ⟨h.box, h.ir, h.gr, h.pb0, h.gi0, h.gg0, h.bel.drew⟩
theorem FB.below (h : FB n w W pb gi gg ins gone) (hb : Below W.heap.size W W') : FB n w W' pb gi gg ins gone :=
  ⟨(hb.block _ (heap_lt h.box)).trans h.box, (hb.block _ (heap_lt h.ir)).trans h.ir, (hb.block _ (heap_lt h.gr)).trans h.gr, h.pb0, h.gi0, h.gg0, h.bel.trans (hb.mono h.bel.size)⟩
theorem fb_c0 (h : FB n w W pb gi gg ins gone) : W.cell? ⟨pb, 0, none⟩ = some (.slice (some ⟨gi, 0, none⟩) (n + 1) (n + 1)) := cell_of_row _ _ 0 _ _ (0, 0) h.box
theorem fb_c1 (h : FB n w W pb gi gg ins gone) : W.cell? ⟨pb, 1, none⟩ = some (.slice (some ⟨gg, 0, none⟩) n n) := cell_of_row _ _ 1 _ _ (0, 0) h.box
theorem fb_cg (h : FB n w W pb gi gg ins gone) (j : Nat) (hj : j < gone.length) : W.cell? ⟨gg, j, none⟩ = some (.bool (gone.getD j false)) := by
  rw [cell_of_row _ _ j _ _ (0, 0) h.gr]
  simp [hj]
theorem fb_ci (h : FB n w W pb gi gg ins gone) (j : Nat) (hj : j < ins.length) : W.cell? ⟨gi, j, none⟩ = some (.string (ins.getD j ⟨#[]⟩)) := by
  rw [cell_of_row _ _ j _ _ (0, 0) h.ir]
  simp [hj]
theorem fb_zg (h : FB n w W pb gi gg ins gone) (j : Nat) : W.frozen? ⟨gg, j, none⟩ = false := frz h.gr j
theorem fb_zi (h : FB n w W pb gi gg ins gone) (j : Nat) : W.frozen? ⟨gi, j, none⟩ = false := frz h.ir j
theorem fb_mk (h1 : W.heap[pb]? = some (.cells #[.slice (some ⟨gi, 0, none⟩) (n + 1) (n + 1), .slice (some ⟨gg, 0, none⟩) n n] 55)) (h2 : W.heap[gi]? = some (.cells (Array.replicate (n + 1) (Value.string ⟨#[]⟩)) 9)) (h3 : W.heap[gg]? = some (.cells (Array.replicate n (Value.bool false)) 4)) (a : w.heap.size ≤ pb) (b : w.heap.size ≤ gi) (c : w.heap.size ≤ gg) (hb : Below w.heap.size w W) :
    FB n w W pb gi gg (List.replicate (n + 1) ⟨#[]⟩) (List.replicate n false) := ⟨h1, by rw [h2]; simp, by rw [h3]; simp, a, b, c, hb⟩
end


set_option maxRecDepth 20000 in
theorem slice_mid (b o len cp lo n : Nat) (hn : lo + n ≤ len) (hc : len ≤ cp) (h0 : 0 < n) (W : World) :
    (Instr.slice 47 (.slice (some ⟨b, o, none⟩) len cp) (some (.int .i64 (lo : Int))) (some (.int .i64 ((lo : Int) + (n : Int)))) none).run Tryd.prog W = .ok (.slice (some ⟨b, o + lo, none⟩) n (cp - lo)) W := by
  rw [run_slice_lh (P := Tryd.prog) W 47 (some ⟨b, o, none⟩) len cp Tryd.underlying47 .i64 .i64 (lo : Int) ((lo : Int) + (n : Int)) (by omega) (by omega) (by omega)]
  have e : Tryd.prog.elem 47 = 3 := by kernel_rfl
  rw [e, sizeInt]
  have e2 : ((lo : Int) + (n : Int)).toNat = lo + n := by omega
  simp only [Result.andThen, sliced, Int.toNat_natCast, Option.map_some, Nat.mul_one, addr_add, e2]
  rw [if_neg (by omega), show lo + n - lo = n by omega]
theorem getD_set_ne {α : Type} {l : List α} {i q : Nat} {x d : α} (h : i ≠ q) : (l.set i x).getD q d = l.getD q d := by
  rw [List.getD_eq_getElem?_getD, List.getElem?_set_ne h, ← List.getD_eq_getElem?_getD]
theorem getD_set_self {α : Type} {l : List α} {i : Nat} {x d : α} (h : i < l.length) : (l.set i x).getD i d = x := by
  rw [List.getD_eq_getElem?_getD, List.getElem?_set_self h]
  rfl
structure Df (A T : List Int) (i j : Nat) (ins : List ByteArray) (gone : List Bool) : Prop where
  li : ins.length = A.length + 1
  lg : gone.length = A.length
  wd : alU A T = gapW ins gone i ++ ((pts (ins.getD i ⟨#[]⟩)).map .I ++ alU (A.drop i) (T.drop j))
  e : ∀ q, i < q → ins.getD q ⟨#[]⟩ = ⟨#[]⟩
  f : ∀ q, i ≤ q → gone.getD q false = false
  v : ∀ t ∈ ins, 0 ≤ cpl t ∧ t.size ≤ 4 * j
  hi : i ≤ A.length
  hj : j ≤ T.length
theorem df_start (A T : List Int) : Df A T 0 0 (List.replicate (A.length + 1) ⟨#[]⟩) (List.replicate A.length false) := by
  have h0 : ∀ q, (List.replicate (A.length + 1) (⟨#[]⟩ : ByteArray)).getD q ⟨#[]⟩ = ⟨#[]⟩ := fun q => by
    by_cases h : q < A.length + 1 <;> simp [List.getD, h]
  refine ⟨by simp, by simp, by rw [h0, pts_nil, gapW]; rfl, fun q _ => h0 q, fun q _ => ?_, fun t ht => ?_, Nat.zero_le _, Nat.zero_le _⟩
  · by_cases h : q < A.length <;> simp [List.getD, h]
  · rw [List.eq_of_mem_replicate ht]
    exact ⟨by decide, by decide⟩
theorem Df.keep {A T : List Int} {i j : Nat} {ins : List ByteArray} {gone : List Bool} (h : Df A T i j ins gone) (hw : alU (A.drop i) (T.drop j) = .K :: alU (A.drop (i + 1)) (T.drop (j + 1))) (hi : i < A.length) (hj : j < T.length) : Df A T (i + 1) (j + 1) ins gone := by
  refine ⟨h.li, h.lg, ?_, fun q hq => h.e q (by omega), fun q hq => h.f q (by omega), fun t ht => ⟨(h.v t ht).1, by have := (h.v t ht).2; omega⟩, by omega, by omega⟩
  rw [h.wd, hw, gapW, h.f i (Nat.le_refl _), h.e (i + 1) (by omega), pts_nil]
  simp
theorem Df.gone {A T : List Int} {i j : Nat} {ins : List ByteArray} {gone : List Bool} (h : Df A T i j ins gone) (hw : alU (A.drop i) (T.drop j) = .R :: alU (A.drop (i + 1)) (T.drop j)) (hi : i < A.length) : Df A T (i + 1) j ins (gone.set i true) := by
  have hl := h.lg
  refine ⟨h.li, by rw [List.length_set]; exact h.lg, ?_, fun q hq => h.e q (by omega), fun q hq => by rw [getD_set_ne (by omega)]; exact h.f q (by omega), h.v, by omega, h.hj⟩
  rw [h.wd, hw, gapW, getD_set_self (by omega), h.e (i + 1) (by omega), pts_nil, gapW_congr (ins := ins) (gone := gone) i (fun q hq => ⟨rfl, getD_set_ne (by omega)⟩)]
  simp
theorem df_put {A T : List Int} {i j : Nat} {y : Int} {ins : List ByteArray} {gone : List Bool} (h : Df A T i j ins gone) (hw : alU (A.drop i) (T.drop j) = .I y :: alU (A.drop i) (T.drop (j + 1))) (hy : szI y ≠ 0) (hj : j < T.length) :
    Df A T i (j + 1) (ins.set i (mk ((ins.getD i ⟨#[]⟩).data.toList ++ (mk (ptB y.toNat)).data.toList))) gone := by
  have hl := h.li
  have hi := h.hi
  have hen := cpl_enc (p := [y]) (fun z hz => by simp at hz; rw [hz]; exact hy)
  have e1 : enc [y] = ptB y.toNat := by simp [enc]
  rw [e1] at hen
  have hm : ins.getD i ⟨#[]⟩ ∈ ins := by
    rw [List.getD_eq_getElem?_getD, List.getElem?_eq_getElem (by omega)]
    exact List.getElem_mem _
  have hv := h.v _ hm
  have hc := cat_ok hv.1 (t := mk (ptB y.toNat)) (by rw [hen.1]; omega)
  have hb : (ptB y.toNat).length ≤ 4 := by
    unfold ptB
    repeat' split
    all_goals simp
  refine ⟨by rw [List.length_set]; exact h.li, h.lg, ?_, fun q hq => by rw [getD_set_ne (by omega)]; exact h.e q hq, h.f, fun t ht => ?_, h.hi, by omega⟩
  · rw [h.wd, hw, getD_set_self (by omega), hc.2, hen.2, gapW_congr (ins := ins) (gone := gone) i (fun q hq => ⟨getD_set_ne (by omega), rfl⟩)]
    simp
  · rcases List.mem_or_eq_of_mem_set ht with ht | rfl
    · exact ⟨(h.v t ht).1, by have := (h.v t ht).2; omega⟩
    · refine ⟨hc.1, ?_⟩
      rw [mk_size, List.length_append, data_len, data_len, mk_size]
      have := hv.2
      omega
theorem Df.done {A T : List Int} {ins : List ByteArray} {gone : List Bool} (h : Df A T A.length T.length ins gone) : formW ins gone = alU A T := by
  rw [h.wd, formW, h.lg, List.drop_length, List.drop_length, alU]
  simp
end Go.Proofs.YtfhbkaiioiihjaaDoor
