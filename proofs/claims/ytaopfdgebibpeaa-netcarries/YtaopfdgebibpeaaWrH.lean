/-
  The contract of wire.Decode.
-/
import Derived.Test.YtaopfdgebibpeaaWrG
namespace Go.Proofs.Ytaopfdgebibpeaa
open Go.ChangeShapes Go.WideShapes Go.ChangeAt Go.RowKit Go.PlainAid

/-- What Decode has read, ahead of its test. -/
def rdM (s : ByteArray) : MsD × Int × Bool :=
  if ((tnR s).2.2 && hdM (tnR s).1.k) = true then ({ (tnR s).1 with d := (tdR s (tnR s).2.1).1 }, (tdR s (tnR s).2.1).2) else tnR s
/-- Is it a message's form? -/
def okM (s : ByteArray) (r : MsD × Int × Bool) : Bool := r.2.2 && decide (r.2.1 = (s.size : Int)) && mayM r.1
/-- What Decode answers. -/
def wdR (s : ByteArray) : MsD × Int := if okM s (rdM s) = true then ((rdM s).1, 0) else (zM, 160)

theorem set_d (m : MsD) (f : Nat) (x : Int) : (m.set f x).d = m.d := by
  match f with
  | 0 | 1 | 2 | 3 | 4 | 5 => rfl
  | f + 6 => rfl
theorem tkF_d (s : ByteArray) : ∀ (fs : List Nat) (m : MsD) (a : Int), (tkF s fs m a).1.d = m.d
  | [], m, a => rfl
  | f :: fs, m, a => by
    rw [tkF]
    split
    · rw [tkF_d s fs, set_d]
    · exact set_d ..
theorem tnR_d (s : ByteArray) : (tnR s).1.d = [] := by
  unfold tnR
  split
  · rw [tkF_d, tkF_d]; rfl
  · rw [tkF_d]; rfl
theorem rdM_in (s : ByteArray) : (rdM s).1.d.length ≤ 3000 ∧ ∀ o ∈ (rdM s).1.d, o.In := by
  unfold rdM
  split
  · unfold tdR
    simp only
    split
    · exact dec_in _
    · simp
  · rw [tnR_d]; simp
theorem mb_d {W : World} {p : Nat} {m : MsD} {v : Value} (h : MB W p m v) (u : Value) (d : List OpD) : MB (W.setCell ⟨p, 6, none⟩ u) p { m with d := d } u := heap_setCell h 6 u

theorem own_row {W : World} {b e z n g : Nat} {v : Value} {L : List Value} {c cs : Array Value} {t : TypeId} (h : W.ownsRow b e z v n L) (hb : W.heap[g]? = some (.cells c t)) (he : e ≠ t) : (W.setRow g cs).ownsRow b e z v n L :=
  h.kept (row := some g) ⟨rfl, rfl, rfl, by simp, fun k _ hk => setRow_other W g k cs (fun e => hk (by rw [e]))⟩ (.inr (fun e => box_apart h hb he e.symm))

set_option maxRecDepth 20000 in
set_option maxHeartbeats 1000000 in
theorem wdecode_any (s : ByteArray) (w : World) (hs : s.size ≤ maxLen) :
    Calls Try.prog 12 #[.string s] w fun e w' => ∃ u, e = .returned (.tuple #[.agg ((wdR s).1.fs u), .int .i64 (wdR s).2]) ∧ w'.ownsRow w.heap.size 90 3 u (wdR s).1.d.length (ocs (wdR s).1.d) ∧ Below w.heap.size w w' := by
  have hr0 : MB _ _ zM (.slice none 0 0) := heap_alloc_new w (.cells (zM.fs (.slice none 0 0)) 34)
  have hZ : Below w.heap.size w (w.alloc (.cells (zM.fs (.slice none 0 0)) 34)) := (Below.refl _ w).alloc (Nat.le_refl _) _
  have hs0 : (w.alloc (.cells (zM.fs (.slice none 0 0)) 34)).heap.size = w.heap.size + 1 := by simp
  have hT := takeNums_any s (w.alloc (.cells (zM.fs (.slice none 0 0)) 34)) hs
  have HR : Hid (rdM s = if ((tnR s).2.2 && hdM (tnR s).1.k) = true then ({ (tnR s).1 with d := (tdR s (tnR s).2.1).1 }, (tdR s (tnR s).2.1).2) else tnR s) := rfl
  have HD : Hid ((tnR s).1.d = []) := tnR_d s
  have HI : Hid ((rdM s).1.d.length ≤ 3000 ∧ ∀ o ∈ (rdM s).1.d, o.In) := rdM_in s
  unfold MsD.fs zM at hs0 hT hZ hr0
  generalize tnR s = T at *
  obtain ⟨m1, a1, o1⟩ := T
  simp only at hT HR HD
  unfold maxLen at hs
  go_enter Try.func12, Try.ntmps12
  go_wp2_with fail
  generalize w.alloc (.cells _ _) = w0 at *
  refine hT.mono ?_
  clear hT
  rintro e w1 ⟨rfl, hb1⟩
  have hr1 : MB w1 w.heap.size zM (.slice none 0 0) := MB.below (m := zM) hr0 hb1
  have hB1 := hZ.trans (hb1.mono hZ.size)
  have hs1 := hb1.size
  clear hr0 hZ hb1
  have hone0 : ((#[.int .i64 0, .int .i64 0, .int .i64 0, .int .i64 0, .int .i64 0, .int .i64 0, .slice none 0 0] : Array Value).all (·.oneCell')) = true := fs_one zM (.slice none 0 0) rfl
  have h70 : (#[.int .i64 0, .int .i64 0, .int .i64 0, .int .i64 0, .int .i64 0, .int .i64 0, .slice none 0 0] : Array Value).size = 7 := rfl
  have hr2 : (w1.alloc (.cells #[.int .i64 m1.k, .int .i64 m1.b, .int .i64 m1.c, .int .i64 m1.s, .int .i64 m1.r, .int .i64 m1.y, .slice none 0 0] 34)).heap[w.heap.size]? = some (.cells #[.int .i64 0, .int .i64 0, .int .i64 0, .int .i64 0, .int .i64 0, .int .i64 0, .slice none 0 0] 34) := hr1.alloc _
  have hB2 : Below w.heap.size w (w1.alloc (.cells #[.int .i64 m1.k, .int .i64 m1.b, .int .i64 m1.c, .int .i64 m1.s, .int .i64 m1.r, .int .i64 m1.y, .slice none 0 0] 34)) := hB1.alloc (by omega) _
  have hx2 : MB (w1.alloc (.cells #[.int .i64 m1.k, .int .i64 m1.b, .int .i64 m1.c, .int .i64 m1.s, .int .i64 m1.r, .int .i64 m1.y, .slice none 0 0] 34)) w1.heap.size m1 (.slice none 0 0) := heap_alloc_new w1 _
  have hs2 : (w1.alloc (.cells #[.int .i64 m1.k, .int .i64 m1.b, .int .i64 m1.c, .int .i64 m1.s, .int .i64 m1.r, .int .i64 m1.y, .slice none 0 0] 34)).heap.size = w1.heap.size + 1 := by simp
  clear hr1 hB1
  cases o1
  · have HF : Hid (wdR s = (zM, 160)) := by
      show _ = _
      rw [wdR, HR.out]
      rfl
    clear HR HD HI hx2
    have hfin := setRow_heap _ _ _ #[.int .i64 0, .int .i64 0, .int .i64 0, .int .i64 0, .int .i64 0, .int .i64 0, .slice none 0 0] _ _ hr2
    have hBf : Below w.heap.size w (World.setRow (w1.alloc (.cells #[.int .i64 m1.k, .int .i64 m1.b, .int .i64 m1.c, .int .i64 m1.s, .int .i64 m1.r, .int .i64 m1.y, .slice none 0 0] 34)) w.heap.size #[.int .i64 0, .int .i64 0, .int .i64 0, .int .i64 0, .int .i64 0, .int .i64 0, .slice none 0 0]) := below_row hB2 (Nat.le_refl _) (by have := hB2.size; omega)
    go_wp2_with (with_reducible refine at_store 34 _ _ rfl ?_; refine store_ms rfl _ _ rfl w.heap.size #[.int .i64 0, .int .i64 0, .int .i64 0, .int .i64 0, .int .i64 0, .int .i64 0, .slice none 0 0] #[.int .i64 0, .int .i64 0, .int .i64 0, .int .i64 0, .int .i64 0, .int .i64 0, .slice none 0 0] rfl rfl hr2 h70 h70 hone0 ?_)
    refine bodyPost_ret (results_cell2 rfl _ _ w.heap.size 34 _ (0, 0) _ rfl hfin Try.underlying34 rfl Try.sizeMs (.int .i64 160) rfl) rfl ?_
    rw [HF.out]
    exact ⟨.slice none 0 0, rfl, World.ownsRow_nil _ _ _ _, hBf⟩
  have hd := hasDelta_any m1 (.slice none 0 0) (w1.alloc (.cells #[.int .i64 m1.k, .int .i64 m1.b, .int .i64 m1.c, .int .i64 m1.s, .int .i64 m1.r, .int .i64 m1.y, .slice none 0 0] 34))
  unfold MsD.fs at hd
  go_wp2_with fail
  generalize w1.alloc (.cells #[.int .i64 m1.k, .int .i64 m1.b, .int .i64 m1.c, .int .i64 m1.s, .int .i64 m1.r, .int .i64 m1.y, .slice none 0 0] 34) = w2 at *
  refine hd.mono ?_
  rintro e w3 ⟨rfl, hb3⟩
  have hr3 : w3.heap[w.heap.size]? = some (.cells #[.int .i64 0, .int .i64 0, .int .i64 0, .int .i64 0, .int .i64 0, .int .i64 0, .slice none 0 0] 34) := (hb3.block w.heap.size (by omega)).trans hr2
  have hB3 := hB2.trans (hb3.mono hB2.size)
  have hx3 := hx2.below hb3
  have hs3 := hb3.size
  clear hr2 hB2 hx2 hb3 hd
  cases hH : hdM m1.k
  · have HM : Hid (rdM s = (m1, a1, true)) := by show _ = _; rw [HR.out, hH]; rfl
    clear HR hH
    have hmy := mayBe_any m1 (.slice none 0 0) w3 (by rw [HD.out]; exact RdD.nil _) (by rw [HD.out]; exact Nat.zero_le _) (by rw [HD.out]; simp)
    obtain ⟨c0, c1, c2, c3, c4, c5, c6⟩ := hx3.cells
    by_cases hq : ¬ a1 = (s.size : Int)
    · have HF : Hid (wdR s = (zM, 160)) := by
        show _ = _
        rw [wdR, HM.out, okM, decide_eq_false hq]
        rfl
      clear HM HD HI hx3 hmy c0 c1 c2 c3 c4 c5 c6
      have hfin := setRow_heap _ _ _ #[.int .i64 0, .int .i64 0, .int .i64 0, .int .i64 0, .int .i64 0, .int .i64 0, .slice none 0 0] _ _ hr3
      have hBf : Below w.heap.size w (World.setRow w3 w.heap.size #[.int .i64 0, .int .i64 0, .int .i64 0, .int .i64 0, .int .i64 0, .int .i64 0, .slice none 0 0]) := below_row hB3 (Nat.le_refl _) (by have := hB3.size; omega)
      go_wp2_with (with_reducible refine at_store 34 _ _ rfl ?_; refine store_ms rfl _ _ rfl w.heap.size #[.int .i64 0, .int .i64 0, .int .i64 0, .int .i64 0, .int .i64 0, .int .i64 0, .slice none 0 0] #[.int .i64 0, .int .i64 0, .int .i64 0, .int .i64 0, .int .i64 0, .int .i64 0, .slice none 0 0] rfl rfl hr3 h70 h70 hone0 ?_)
      refine bodyPost_ret (results_cell2 rfl _ _ w.heap.size 34 _ (0, 0) _ rfl hfin Try.underlying34 rfl Try.sizeMs (.int .i64 160) rfl) rfl ?_
      rw [HF.out]
      exact ⟨.slice none 0 0, rfl, World.ownsRow_nil _ _ _ _, hBf⟩
    replace hq := Decidable.not_not.1 hq
    subst hq
    cases hM : mayM m1
    · have HF : Hid (wdR s = (zM, 160)) := by
        show _ = _
        rw [wdR, HM.out, okM, hM]
        simp
      rw [hM] at hmy
      unfold MsD.fs at hmy
      clear HM HD HI hM
      go_wp2_with fail
      refine hmy.mono ?_
      rintro e w4 ⟨rfl, hb4⟩
      have hr4 : w4.heap[w.heap.size]? = some (.cells #[.int .i64 0, .int .i64 0, .int .i64 0, .int .i64 0, .int .i64 0, .int .i64 0, .slice none 0 0] 34) := (hb4.block w.heap.size (by omega)).trans hr3
      have hB4 := hB3.trans (hb4.mono hB3.size)
      clear hmy hb4 hr3 hB3 hx3 c0 c1 c2 c3 c4 c5 c6
      have hfin := setRow_heap _ _ _ #[.int .i64 0, .int .i64 0, .int .i64 0, .int .i64 0, .int .i64 0, .int .i64 0, .slice none 0 0] _ _ hr4
      have hBf : Below w.heap.size w (World.setRow w4 w.heap.size #[.int .i64 0, .int .i64 0, .int .i64 0, .int .i64 0, .int .i64 0, .int .i64 0, .slice none 0 0]) := below_row hB4 (Nat.le_refl _) (by have := hB4.size; omega)
      go_wp2_with (with_reducible refine at_store 34 _ _ rfl ?_; refine store_ms rfl _ _ rfl w.heap.size #[.int .i64 0, .int .i64 0, .int .i64 0, .int .i64 0, .int .i64 0, .int .i64 0, .slice none 0 0] #[.int .i64 0, .int .i64 0, .int .i64 0, .int .i64 0, .int .i64 0, .int .i64 0, .slice none 0 0] rfl rfl hr4 h70 h70 hone0 ?_)
      refine bodyPost_ret (results_cell2 rfl _ _ w.heap.size 34 _ (0, 0) _ rfl hfin Try.underlying34 rfl Try.sizeMs (.int .i64 160) rfl) rfl ?_
      rw [HF.out]
      exact ⟨.slice none 0 0, rfl, World.ownsRow_nil _ _ _ _, hBf⟩
    have HF : Hid (wdR s = (m1, 0)) := by
      show _ = _
      rw [wdR, HM.out, okM, hM]
      simp
    rw [hM] at hmy
    unfold MsD.fs at hmy
    clear HM HI hM
    go_wp2_with fail
    refine hmy.mono ?_
    rintro e w4 ⟨rfl, hb4⟩
    have hr4 : w4.heap[w.heap.size]? = some (.cells #[.int .i64 0, .int .i64 0, .int .i64 0, .int .i64 0, .int .i64 0, .int .i64 0, .slice none 0 0] 34) := (hb4.block w.heap.size (by omega)).trans hr3
    have hB4 := hB3.trans (hb4.mono hB3.size)
    have hx4 := hx3.below hb4
    clear hmy hb4 hr3 hB3 hx3 c0 c1 c2 c3 c4 c5 c6
    have hone := fs_one m1 (.slice none 0 0) (by rfl)
    have hfin := setRow_heap _ _ _ (m1.fs (.slice none 0 0)) _ _ hr4
    have hBf : Below w.heap.size w (World.setRow w4 w.heap.size (m1.fs (.slice none 0 0))) := below_row hB4 (Nat.le_refl _) (by have := hB4.size; omega)
    have hsz : (m1.fs (.slice none 0 0)).size = 7 := rfl
    have hown : (World.setRow w4 w.heap.size (m1.fs (.slice none 0 0))).ownsRow w.heap.size 90 3 (.slice none 0 0) (wdR s).1.d.length (ocs (wdR s).1.d) := by
      rw [HF.out]
      exact by rw [HD.out]; exact World.ownsRow_nil _ _ _ _
    unfold MB at hx4
    have HG : Hid (Value.agg ((wdR s).1.fs (.slice none 0 0)) = .agg (m1.fs (.slice none 0 0))) := by show _ = _; rw [HF.out]
    have HE : Hid ((wdR s).2 = 0) := by show _ = _; rw [HF.out]
    generalize m1.fs (.slice none 0 0) = cs at *
    have hsi : (Try.prog.info? 34).map (·.size) = some cs.size := by rw [hsz]; exact Try.sizeMs
    go_wp2_with (first | (with_reducible refine at_load 34 _ rfl ?_; refine wpList_load_row rfl 34 _ rfl w1.heap.size rfl 34 _ _ _ hx4 Try.underlying34 rfl hsi ?_) | (with_reducible refine at_store 34 _ _ rfl ?_; refine store_ms rfl _ _ rfl w.heap.size cs #[.int .i64 0, .int .i64 0, .int .i64 0, .int .i64 0, .int .i64 0, .int .i64 0, .slice none 0 0] rfl rfl hr4 h70 hsz hone ?_))
    refine bodyPost_ret (results_cell2 rfl _ _ w.heap.size 34 _ (0, 0) _ rfl hfin Try.underlying34 rfl hsi (.int .i64 0) rfl) rfl ?_
    refine ⟨_, ?_, hown, hBf⟩
    rw [HG.out, HE.out]
  have htd := takeDelta_any s a1 w3 hs
  have HM : Hid (rdM s = ({ m1 with d := (tdR s a1).1 }, (tdR s a1).2)) := by show _ = _; rw [HR.out, hH]; rfl
  have HI2 : Hid ((tdR s a1).1.length ≤ 3000 ∧ ∀ o ∈ (tdR s a1).1, o.In) := by have := HI.out; rw [HM.out] at this; exact this
  clear HR hH HD HI
  generalize tdR s a1 = T at *
  obtain ⟨d, q, o2⟩ := T
  simp only at htd HM HI2
  go_wp2_with fail
  refine htd.mono ?_
  clear htd
  rintro e w4 ⟨u, rfl, ho4, hb4⟩
  have hr4 : MB w4 w.heap.size zM (.slice none 0 0) := (hb4.block w.heap.size (by omega)).trans hr3
  have hB4 := hB3.trans (hb4.mono hB3.size)
  have hx4 := hx3.below hb4
  have hs4 := hb4.size
  clear hr3 hB3 hx3 hb4
  obtain ⟨-, -, -, -, -, -, c6⟩ := hx4.cells
  have hz4 := frz hx4 6
  have ho5 := own_set (j := 6) (x := u) ho4 hx4 (by decide)
  have hx5 := mb_d hx4 u d
  have hr5 : (w4.setCell ⟨w1.heap.size, 6, none⟩ u).heap[w.heap.size]? = some (.cells #[.int .i64 0, .int .i64 0, .int .i64 0, .int .i64 0, .int .i64 0, .int .i64 0, .slice none 0 0] 34) := (Below.heap_setCell w4 ⟨w1.heap.size, 6, none⟩ u w.heap.size (by simp; omega)).trans hr4
  have hB5 : Below w.heap.size w (w4.setCell ⟨w1.heap.size, 6, none⟩ u) := below_set hB4 (by omega) (by omega)
  have hs5 : (w4.setCell ⟨w1.heap.size, 6, none⟩ u).heap.size = w4.heap.size := by simp [World.setCell]
  have hrd := rdd_own ho5
  obtain ⟨ao, cp, rfl⟩ := own_form ho4
  clear hr4 hB4 hx4 ho4
  cases o2
  · have HF : Hid (wdR s = (zM, 160)) := by
      show _ = _
      rw [wdR, HM.out, okM]
      rfl
    clear HM HI2 hx5 ho5 hrd
    have hfin := setRow_heap _ _ _ #[.int .i64 0, .int .i64 0, .int .i64 0, .int .i64 0, .int .i64 0, .int .i64 0, .slice none 0 0] _ _ hr5
    have hBf : Below w.heap.size w (World.setRow (w4.setCell ⟨w1.heap.size, 6, none⟩ (.slice ao d.length cp)) w.heap.size #[.int .i64 0, .int .i64 0, .int .i64 0, .int .i64 0, .int .i64 0, .int .i64 0, .slice none 0 0]) := below_row hB5 (Nat.le_refl _) (by have := hB5.size; omega)
    go_wp2_with (with_reducible refine at_store 34 _ _ rfl ?_; refine store_ms rfl _ _ rfl w.heap.size #[.int .i64 0, .int .i64 0, .int .i64 0, .int .i64 0, .int .i64 0, .int .i64 0, .slice none 0 0] #[.int .i64 0, .int .i64 0, .int .i64 0, .int .i64 0, .int .i64 0, .int .i64 0, .slice none 0 0] rfl rfl hr5 h70 h70 hone0 ?_)
    refine bodyPost_ret (results_cell2 rfl _ _ w.heap.size 34 _ (0, 0) _ rfl hfin Try.underlying34 rfl Try.sizeMs (.int .i64 160) rfl) rfl ?_
    rw [HF.out]
    exact ⟨.slice none 0 0, rfl, World.ownsRow_nil _ _ _ _, hBf⟩
  by_cases hq : ¬ q = (s.size : Int)
  · have HF : Hid (wdR s = (zM, 160)) := by
      show _ = _
      rw [wdR, HM.out, okM, decide_eq_false hq]
      rfl
    clear HM HI2 hx5 ho5 hrd
    have hfin := setRow_heap _ _ _ #[.int .i64 0, .int .i64 0, .int .i64 0, .int .i64 0, .int .i64 0, .int .i64 0, .slice none 0 0] _ _ hr5
    have hBf : Below w.heap.size w (World.setRow (w4.setCell ⟨w1.heap.size, 6, none⟩ (.slice ao d.length cp)) w.heap.size #[.int .i64 0, .int .i64 0, .int .i64 0, .int .i64 0, .int .i64 0, .int .i64 0, .slice none 0 0]) := below_row hB5 (Nat.le_refl _) (by have := hB5.size; omega)
    go_wp2_with (with_reducible refine at_store 34 _ _ rfl ?_; refine store_ms rfl _ _ rfl w.heap.size #[.int .i64 0, .int .i64 0, .int .i64 0, .int .i64 0, .int .i64 0, .int .i64 0, .slice none 0 0] #[.int .i64 0, .int .i64 0, .int .i64 0, .int .i64 0, .int .i64 0, .int .i64 0, .slice none 0 0] rfl rfl hr5 h70 h70 hone0 ?_)
    refine bodyPost_ret (results_cell2 rfl _ _ w.heap.size 34 _ (0, 0) _ rfl hfin Try.underlying34 rfl Try.sizeMs (.int .i64 160) rfl) rfl ?_
    rw [HF.out]
    exact ⟨.slice none 0 0, rfl, World.ownsRow_nil _ _ _ _, hBf⟩
  replace hq := Decidable.not_not.1 hq
  subst hq
  have hmy := mayBe_any { m1 with d := d } (.slice ao d.length cp) _ hrd (by have := HI2.out.1; unfold maxLen; simp only; omega) HI2.out.2
  cases hM : mayM { m1 with d := d }
  · have HF : Hid (wdR s = (zM, 160)) := by
      show _ = _
      rw [wdR, HM.out, okM, hM]
      simp
    rw [hM] at hmy
    unfold MsD.fs at hmy
    obtain ⟨d0, d1, d2, d3, d4, d5, d6⟩ := hx5.cells
    clear HM HI2 hM hrd ho5 hx5
    go_wp2_with fail
    generalize w4.setCell ⟨w1.heap.size, 6, none⟩ (.slice ao d.length cp) = w5 at *
    refine hmy.mono ?_
    rintro e w6 ⟨rfl, hb6⟩
    have hr6 : w6.heap[w.heap.size]? = some (.cells #[.int .i64 0, .int .i64 0, .int .i64 0, .int .i64 0, .int .i64 0, .int .i64 0, .slice none 0 0] 34) := (hb6.block w.heap.size (by omega)).trans hr5
    have hB6 := hB5.trans (hb6.mono hB5.size)
    clear hmy hb6 hr5 hB5 d0 d1 d2 d3 d4 d5 d6 c6 hz4
    have hfin := setRow_heap _ _ _ #[.int .i64 0, .int .i64 0, .int .i64 0, .int .i64 0, .int .i64 0, .int .i64 0, .slice none 0 0] _ _ hr6
    have hBf : Below w.heap.size w (World.setRow w6 w.heap.size #[.int .i64 0, .int .i64 0, .int .i64 0, .int .i64 0, .int .i64 0, .int .i64 0, .slice none 0 0]) := below_row hB6 (Nat.le_refl _) (by have := hB6.size; omega)
    go_wp2_with (with_reducible refine at_store 34 _ _ rfl ?_; refine store_ms rfl _ _ rfl w.heap.size #[.int .i64 0, .int .i64 0, .int .i64 0, .int .i64 0, .int .i64 0, .int .i64 0, .slice none 0 0] #[.int .i64 0, .int .i64 0, .int .i64 0, .int .i64 0, .int .i64 0, .int .i64 0, .slice none 0 0] rfl rfl hr6 h70 h70 hone0 ?_)
    refine bodyPost_ret (results_cell2 rfl _ _ w.heap.size 34 _ (0, 0) _ rfl hfin Try.underlying34 rfl Try.sizeMs (.int .i64 160) rfl) rfl ?_
    rw [HF.out]
    exact ⟨.slice none 0 0, rfl, World.ownsRow_nil _ _ _ _, hBf⟩
  have HF : Hid (wdR s = ({ m1 with d := d }, 0)) := by
    show _ = _
    rw [wdR, HM.out, okM, hM]
    simp
  rw [hM] at hmy
  obtain ⟨d0, d1, d2, d3, d4, d5, d6⟩ := hx5.cells
  unfold MsD.fs at hmy
  clear HM HI2 hM hrd
  go_wp2_with fail
  generalize w4.setCell ⟨w1.heap.size, 6, none⟩ (.slice ao d.length cp) = w5 at *
  refine hmy.mono ?_
  rintro e w6 ⟨rfl, hb6⟩
  have hr6 : w6.heap[w.heap.size]? = some (.cells #[.int .i64 0, .int .i64 0, .int .i64 0, .int .i64 0, .int .i64 0, .int .i64 0, .slice none 0 0] 34) := (hb6.block w.heap.size (by omega)).trans hr5
  have hB6 := hB5.trans (hb6.mono hB5.size)
  have hx6 := hx5.below hb6
  have ho6 := own_lower (b' := w.heap.size) (own_belowG ho5 hb6) (by omega)
  clear hmy hb6 hr5 hB5 hx5 ho5 d0 d1 d2 d3 d4 d5 d6 c6 hz4
  generalize hm2 : ({ m1 with d := d } : MsD) = m2 at *
  have HD2 : Hid (m2.d = d) := by show _ = _; rw [← hm2]
  clear hm2
  have hone := fs_one m2 (.slice ao d.length cp) rfl
  have hfin := setRow_heap _ _ _ (m2.fs (.slice ao d.length cp)) _ _ hr6
  have hBf : Below w.heap.size w (World.setRow w6 w.heap.size (m2.fs (.slice ao d.length cp))) := below_row hB6 (Nat.le_refl _) (by have := hB6.size; omega)
  have hsz : (m2.fs (.slice ao d.length cp)).size = 7 := rfl
  have hown : (World.setRow w6 w.heap.size (m2.fs (.slice ao d.length cp))).ownsRow w.heap.size 90 3 (.slice ao d.length cp) (wdR s).1.d.length (ocs (wdR s).1.d) := by
    rw [HF.out]
    exact by simp only [HD2.out]; exact own_row ho6 hr6 (by decide)
  unfold MB at hx6
  have HG : Hid (Value.agg ((wdR s).1.fs (.slice ao d.length cp)) = .agg (m2.fs (.slice ao d.length cp))) := by show _ = _; rw [HF.out]
  have HE : Hid ((wdR s).2 = 0) := by show _ = _; rw [HF.out]
  generalize m2.fs (.slice ao d.length cp) = cs at *
  have hsi : (Try.prog.info? 34).map (·.size) = some cs.size := by rw [hsz]; exact Try.sizeMs
  go_wp2_with (first | (with_reducible refine at_load 34 _ rfl ?_; refine wpList_load_row rfl 34 _ rfl w1.heap.size rfl 34 _ _ _ hx6 Try.underlying34 rfl hsi ?_) | (with_reducible refine at_store 34 _ _ rfl ?_; refine store_ms rfl _ _ rfl w.heap.size cs #[.int .i64 0, .int .i64 0, .int .i64 0, .int .i64 0, .int .i64 0, .int .i64 0, .slice none 0 0] rfl rfl hr6 h70 hsz hone ?_))
  refine bodyPost_ret (results_cell2 rfl _ _ w.heap.size 34 _ (0, 0) _ rfl hfin Try.underlying34 rfl hsi (.int .i64 0) rfl) rfl ?_
  refine ⟨_, ?_, hown, hBf⟩
  rw [HG.out, HE.out]
end Go.Proofs.Ytaopfdgebibpeaa
