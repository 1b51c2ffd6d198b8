/-
  The reference: SameMessages of equal rows.
-/
import Derived.Test.YtcdnlkhjlgaaoaaDoorCmG
import Derived.Test.YtcdnlkhjlgaaoaaDoorClS
namespace Go.Proofs.YtcdnlkhjlgaaoaaDoor
open Go.ChangeShapes Go.WideShapes Go.ChangeAt Go.RowKit Go.PlainAid

theorem mcs7_at : ∀ (l : List MsD) (us : List Value) (i : Nat) (m : MsD), us.length = l.length → l[i]? = some m → ∃ u, us[i]? = some u ∧ (mcs7 l us)[i * 7]? = some (.int .i64 m.k) ∧ (mcs7 l us)[i * 7 + 1]? = some (.int .i64 m.b) ∧ (mcs7 l us)[i * 7 + 2]? = some (.int .i64 m.c) ∧ (mcs7 l us)[i * 7 + 3]? = some (.int .i64 m.s) ∧ (mcs7 l us)[i * 7 + 4]? = some (.int .i64 m.r) ∧ (mcs7 l us)[i * 7 + 5]? = some (.int .i64 m.y) ∧ (mcs7 l us)[i * 7 + 6]? = some u
  | x :: l, y :: us, 0, m, _, h => by
    simp at h
    subst h
    exact ⟨y, rfl, rfl, rfl, rfl, rfl, rfl, rfl, rfl⟩
  | x :: l, y :: us, i + 1, m, h, hi => by
    obtain ⟨u, h1, h2, h3, h4, h5, h6, h7, h8⟩ := mcs7_at l us i m (by simpa using h) (by simpa using hi)
    have e : ∀ j, (mcs7 (x :: l) (y :: us))[(i + 1) * 7 + j]? = (mcs7 l us)[i * 7 + j]? := fun j => by
      rw [show (i + 1) * 7 + j = i * 7 + j + 1 + 1 + 1 + 1 + 1 + 1 + 1 by omega]
      simp [mcs7]
    have e0 := e 0
    simp only [Nat.add_zero] at e0
    exact ⟨u, by simpa using h1, e0.trans h2, (e 1).trans h3, (e 2).trans h4, (e 3).trans h5, (e 4).trans h6, (e 5).trans h7, (e 6).trans h8⟩
  | [], [], _, _, _, h => by simp at h
  | [], _ :: _, _, _, h, _ => by simp at h
  | _ :: _, [], _, _, h, _ => by simp at h
/-- At v lie messages. -/
def RdMs (w : World) (v : Value) (l : List MsD) : Prop :=
  ∃ ao cp, v = .slice ao l.length cp ∧ ∀ (i : Nat) (m : MsD), l[i]? = some m → ∃ b u, ao = some ⟨b, 0, none⟩ ∧ At7 w b (i * 7) m u ∧ RdD w u m.d
theorem RdMs.below {w w' : World} {v : Value} {l : List MsD} (h : RdMs w v l) (hb : Below w.heap.size w w') : RdMs w' v l := by
  obtain ⟨ao, cp, e, h1⟩ := h
  refine ⟨ao, cp, e, fun i m hi => ?_⟩
  obtain ⟨b, u, e1, h7, hr⟩ := h1 i m hi
  exact ⟨b, u, e1, h7.below hb, hr.below hb⟩
theorem OwMs.rd {W : World} {B : Nat} {v : Value} {l : List MsD} {us : List Value} (h : OwMs W B v l us) : RdMs W v l := by
  have hr := h.row
  rcases hr.2 with ⟨rfl, h0⟩ | ⟨g, cap, cur, rfl, _, hg, hn, _, _, ht⟩
  · have : l = [] := List.length_eq_zero_iff.1 h0
    subst this
    exact ⟨none, 0, rfl, fun i m hi => by simp at hi⟩
  · refine ⟨_, _, rfl, fun i m hi => ?_⟩
    obtain ⟨u, h1, q0, q1, q2, q3, q4, q5, q6⟩ := mcs7_at l us i m h.ul hi
    have q := hr.cells (g := g) rfl
    have hadd : ∀ k, (⟨g, 0, none⟩ : Addr).add k = ⟨g, k, none⟩ := fun k => by unfold Addr.add; split <;> simp_all
    simp only [hadd] at q
    exact ⟨g, u, rfl, ⟨EB.lt' hg, q _ _ q0, q _ _ q1, q _ _ q2, q _ _ q3, q _ _ q4, q _ _ q5, q _ _ q6⟩, rdd_own (h.dl i m u hi h1)⟩
set_option maxRecDepth 20000 in
set_option maxHeartbeats 2000000 in
theorem rsameM_true (l : List MsD) (va vb : Value) (w : World) (ha : RdMs w va l) (hb : RdMs w vb l) (hl : l.length ≤ 1000) (hF : ∀ m ∈ l, m.d.length ≤ maxLen) :
    Calls Tryd.prog 19 #[va, vb] w fun e w' => e = .returned (.bool true) ∧ Below w.heap.size w w' := by
  obtain ⟨aa, ca, rfl, hca⟩ := ha
  obtain ⟨ab, cb, rfl, hcb⟩ := hb
  go_enter Tryd.func19, Tryd.ntmps19
  go_wp2_with fail
  go_loopw [5] (fun i wr => ∃ (k : Nat), k ≤ l.length ∧ i = .int .i64 (k : Int) ∧ Below w.heap.size w wr) (fun i _ => l.length - (Go.RowKit.intOf i).toNat)
  case atStart => exact ⟨0, by omega, rfl, Below.refl _ _⟩
  case round =>
    obtain ⟨k, hk, rfl, hbl⟩ := hrel
    by_cases hlt : k < l.length
    · have hlt' : (k : Int) < (l.length : Int) := by omega
      obtain ⟨ga, ua, rfl, h7a, ra⟩ := hca k l[k] (by simp [hlt])
      obtain ⟨gb, ub, rfl, h7b, rb⟩ := hcb k l[k] (by simp [hlt])
      have hlm := hF l[k] (List.getElem_mem hlt)
      obtain ⟨au, ku, rfl⟩ := rdd_len ra
      obtain ⟨bu, kb, rfl⟩ := rdd_len rb
      have cS := fun W (h : Below wr.heap.size wr W) => same_true _ _ l[k].d W hlm ((ra.below hbl).below h) ((rb.below hbl).below h)
      replace h7a := h7a.below hbl
      replace h7b := h7b.below hbl
      clear hca hcb hF ra rb hlm
      generalize l[k] = m at *
      have hal := alloc_b wr (.cells #[.int .i64 m.k, .int .i64 m.b, .int .i64 m.c, .int .i64 m.s, .int .i64 m.r, .int .i64 m.y, .slice au m.d.length ku] 38)
      have hal2 := chain hal (alloc_b _ (.cells #[.int .i64 m.k, .int .i64 m.b, .int .i64 m.c, .int .i64 m.s, .int .i64 m.r, .int .i64 m.y, .slice bu m.d.length kb] 38))
      have h7b' := h7b.below hal
      have hx := (mb_new wr m (.slice au m.d.length ku)).below (alloc_b _ (.cells #[.int .i64 m.k, .int .i64 m.b, .int .i64 m.c, .int .i64 m.s, .int .i64 m.r, .int .i64 m.y, .slice bu m.d.length kb] 38))
      have hy := mb_new (wr.alloc (.cells #[.int .i64 m.k, .int .i64 m.b, .int .i64 m.c, .int .i64 m.s, .int .i64 m.r, .int .i64 m.y, .slice au m.d.length ku] 38)) m (.slice bu m.d.length kb)
      rw [World.size_alloc] at hy
      obtain ⟨-, c0, c1, c2, c3, c4, c5, c6⟩ := h7a
      obtain ⟨-, d0, d1, d2, d3, d4, d5, d6⟩ := h7b'
      obtain ⟨x0, x1, x2, x3, x4, x5, x6⟩ := cellsMB hx
      obtain ⟨y0, y1, y2, y3, y4, y5, y6⟩ := cellsMB hy
      have cS' := cS _ hal2
      clear cS
      go_wp2_with fail
      refine cS'.mono ?_
      rintro e w2 ⟨rfl, hb2⟩
      go_wp2_with fail
      exact ⟨⟨k + 1, by omega, by go_num, chain hbl (chain hal2 hb2)⟩, by simp [Go.RowKit.intOf]; omega⟩
    · have hlt' : ¬ (k : Int) < (l.length : Int) := by omega
      go_wp2_with fail
      go_ret
      exact ⟨rfl, hbl⟩
end Go.Proofs.YtcdnlkhjlgaaoaaDoor

/-
  Says' whole contracts; rows of messages whose deltas are written to.
-/
namespace Go.Proofs.YtcdnlkhjlgaaoaaDoor
open Go.ChangeShapes Go.WideShapes Go.ChangeAt Go.RowKit Go.PlainAid

theorem ow_nil (W : World) (B : Nat) : OwMs W B (.slice none 0 0) [] [] := ⟨rfl, World.ownsRow_nil _ _ _ _, fun i m u h => by simp at h⟩
theorem ow_pull {W : World} {B : Nat} {v : Value} {E : EdD} (h : W.ownsRow B 38 7 v 1 (mcs7 [pullE E] [.slice none 0 0])) : OwMs W B v [pullE E] [.slice none 0 0] := by
  refine ⟨rfl, h, fun i m u h1 h2 => ?_⟩
  rcases i with _ | i
  · simp only [List.getElem?_cons_zero, Option.some.injEq] at h1 h2
    subst h1
    subst h2
    exact World.ownsRow_nil _ _ _ _
  · simp at h1
theorem ow_edit {W : World} {B : Nat} {v u0 : Value} {E : EdD} {m0 : MsD} (h : W.ownsRow B 38 7 v 2 (mcs7 [m0, pullE E] [u0, .slice none 0 0])) (hd : W.ownsRow B 43 3 u0 m0.d.length (ocs m0.d)) : OwMs W B v [m0, pullE E] [u0, .slice none 0 0] := by
  refine ⟨rfl, h, fun i m u h1 h2 => ?_⟩
  rcases i with _ | i
  · simp only [List.getElem?_cons_zero, Option.some.injEq] at h1 h2
    subst h1
    subst h2
    exact hd
  · rcases i with _ | i
    · simp only [List.getElem?_cons_succ, List.getElem?_cons_zero, Option.some.injEq] at h1 h2
      subst h1
      subst h2
      exact World.ownsRow_nil _ _ _ _
    · simp at h1
theorem says_all (E : EdD) (v : Value) (w : World) (hr : RdEd w v E.p) (hV : VS w) (hF : E.Fit) :
    Calls Tryd.prog 17 #[.agg (E.fs v)] w fun e w' => ∃ v' us, e = .returned v' ∧ OwMs w' w.heap.size v' (sayE E) us ∧ Below w.heap.size w w' := by
  by_cases hm : mayE E = true
  · obtain ⟨c, b, r, t, s, p⟩ := E
    cases p with
    | nil =>
      have e : sayE ⟨c, b, r, t, s, []⟩ = [pullE ⟨c, b, r, t, s, []⟩] := by unfold sayE; rw [if_pos hm]
      rw [e]
      refine (says_pull c b r s t v w hr hV hF hm).mono ?_
      rintro e w' ⟨v', rfl, h1, h2⟩
      exact ⟨v', _, rfl, ow_pull h1, h2⟩
    | cons x q =>
      have e : sayE ⟨c, b, r, t, s, x :: q⟩ = [editE ⟨c, b, r, t, s, x :: q⟩ x, pullE ⟨c, b, r, t, s, x :: q⟩] := by unfold sayE; rw [if_pos hm]
      rw [e]
      refine (says_edit c b r s t x q v w hr hV hF hm).mono ?_
      rintro e w' ⟨v', u, rfl, h1, h3, h2⟩
      exact ⟨v', _, rfl, ow_edit h1 h3, h2⟩
  · have e : sayE E = [] := by unfold sayE; rw [if_neg hm]
    rw [e]
    refine (says_no E v w hr hV hF (by simpa using hm)).mono ?_
    rintro e w' ⟨rfl, h2⟩
    exact ⟨_, _, rfl, ow_nil _ _, h2⟩
theorem rsays_all (E : EdD) (v : Value) (w : World) (hr : RdEd w v E.p) (hF : E.Fit) (ht : E.t.size ≤ 1048576) (hS : ∀ e ∈ E.p, ∀ o ∈ e.d, o.Sm) (hl : ∀ e ∈ E.p, e.d.length ≤ 1048576) :
    Calls Tryd.prog 18 #[.agg (E.fs v)] w fun e w' => ∃ v' us, e = .returned v' ∧ OwMs w' w.heap.size v' (sayE E) us ∧ Below w.heap.size w w' := by
  by_cases hm : mayE E = true
  · have hM := (may_iff E).1 hm
    obtain ⟨c, b, r, t, s, p⟩ := E
    cases p with
    | nil =>
      have e : sayE ⟨c, b, r, t, s, []⟩ = [pullE ⟨c, b, r, t, s, []⟩] := by unfold sayE; rw [if_pos hm]
      rw [e]
      refine (rsays_pull c b r s t v w hr hF ht hm).mono ?_
      rintro e w' ⟨v', rfl, h1, h2⟩
      exact ⟨v', _, rfl, ow_pull h1, h2⟩
    | cons x q =>
      have hj : jn (stR x.d) = x.d := by have := may_ok hM x (by simp); simp [okD] at this; exact this.2
      have e : sayE ⟨c, b, r, t, s, x :: q⟩ = [⟨1, b, c, x.q, r, 0, x.d⟩, pullE ⟨c, b, r, t, s, x :: q⟩] := by unfold sayE; rw [if_pos hm]; simp only [editE, hj]
      rw [e]
      refine (rsays_edit c b r s t x q v w hr hF ht hS (hl x (by simp)) hm).mono ?_
      rintro e w' ⟨v', u, rfl, h1, h3, h2⟩
      exact ⟨v', _, rfl, ow_edit h1 h3, h2⟩
  · have e : sayE E = [] := by unfold sayE; rw [if_neg hm]
    rw [e]
    refine (rsays_no E v w hr hF ht hS (by simpa using hm)).mono ?_
    rintro e w' ⟨rfl, h2⟩
    exact ⟨_, _, rfl, ow_nil _ _, h2⟩
theorem say_len (E : EdD) : (sayE E).length ≤ 2 := by unfold sayE; split <;> (try split) <;> simp
theorem say_d {E : EdD} (hF : E.Fit) : ∀ m ∈ sayE E, m.d.length ≤ 2000 := by
  intro m hm
  unfold sayE at hm
  split at hm
  · split at hm
    · simp at hm; subst hm; simp [pullE]
    · rename_i x q hp
      simp at hm
      rcases hm with rfl | rfl
      · exact (jn_in (stR_ok (hF.pf x (by rw [hp]; simp)).di) (stR_bd x.d).1 (stR_bd x.d).2).1
      · simp [pullE]
  · cases hm
/-- Messages whose deltas may be written to. -/
structure Mut (B : Nat) (v : Value) (l : List MsD) (us : List Value) (W : World) : Prop where
  ul : us.length = l.length
  row : W.ownsRow B 38 7 v l.length (mcs7 l us)
  dl : ∀ (i : Nat) (u : Value), us[i]? = some u → ∃ a n c, u = .slice a n c ∧ n ≤ 2000 ∧ (n = 0 ∨ ∃ g cs, a = some ⟨g, 0, none⟩ ∧ B ≤ g ∧ W.heap[g]? = some (.cells cs 43) ∧ n * 3 ≤ cs.size)
theorem OwMs.mut {W : World} {B : Nat} {v : Value} {l : List MsD} {us : List Value} (h : OwMs W B v l us) (hl : ∀ m ∈ l, m.d.length ≤ 2000) : Mut B v l us W := by
  refine ⟨h.ul, h.row, fun i u hu => ?_⟩
  have hi : i < l.length := by rw [← h.ul]; exact (List.getElem?_eq_some_iff.1 hu).1
  have hd := h.dl i l[i] u (by simp [hi]) hu
  have hn := hl l[i] (List.getElem_mem hi)
  rcases hd.2 with ⟨rfl, h0⟩ | ⟨g, cap, cur, rfl, hb, hg, hn', _, hs, _⟩
  · exact ⟨none, 0, 0, rfl, by omega, .inl rfl⟩
  · exact ⟨_, _, _, rfl, hn, .inr ⟨g, cur, rfl, hb, hg, by rw [hs]; exact Nat.mul_le_mul_right _ hn'⟩⟩
theorem Mut.set {W : World} {B : Nat} {v : Value} {l : List MsD} {us : List Value} {g j : Nat} {cs : Array Value} {x : Value} (h : Mut B v l us W) (hg : W.heap[g]? = some (.cells cs 43)) : Mut B v l us (W.setCell ⟨g, j, none⟩ x) := by
  refine ⟨h.ul, own_set h.row hg (by decide), fun i u hu => ?_⟩
  obtain ⟨a, n, c, e, hn, hd⟩ := h.dl i u hu
  refine ⟨a, n, c, e, hn, hd.imp id ?_⟩
  rintro ⟨g', cs', ea, hb, hg', hs⟩
  by_cases hgg : g' = g
  · subst hgg
    rw [hg] at hg'
    cases hg'
    exact ⟨g', _, ea, hb, heap_setCell hg j x, by simpa using hs⟩
  · exact ⟨g', cs', ea, hb, (Below.heap_setCell W ⟨g, j, none⟩ x g' hgg).trans hg', hs⟩
theorem Mut.below {W W' : World} {B : Nat} {v : Value} {l : List MsD} {us : List Value} (h : Mut B v l us W) (hb : Below W.heap.size W W') : Mut B v l us W' := by
  refine ⟨h.ul, own_belowG h.row hb, fun i u hu => ?_⟩
  obtain ⟨a, n, c, e, hn, hd⟩ := h.dl i u hu
  refine ⟨a, n, c, e, hn, hd.imp id ?_⟩
  rintro ⟨g', cs', ea, hb', hg', hs⟩
  exact ⟨g', cs', ea, hb', (hb.block g' (EB.lt' hg')).trans hg', hs⟩
/-- Where a message's delta lies. -/
theorem Mut.at {W : World} {B : Nat} {v : Value} {l : List MsD} {us : List Value} (h : Mut B v l us W) {i : Nat} (hi : i < l.length) : ∃ g cap u, v = .slice (some ⟨g, 0, none⟩) l.length cap ∧ us[i]? = some u ∧ W.cell? ⟨g, i * 7 + 6, none⟩ = some u := by
  rcases h.row.2 with ⟨rfl, h0⟩ | ⟨g, cap, cur, rfl, _, hg, hn, _, _, _⟩
  · omega
  · obtain ⟨u, h1, -, -, -, -, -, -, q6⟩ := mcs7_at l us i l[i] h.ul (by simp [hi])
    have q := h.row.cells (g := g) rfl
    have hadd : ∀ k, (⟨g, 0, none⟩ : Addr).add k = ⟨g, k, none⟩ := fun k => by unfold Addr.add; split <;> simp_all
    simp only [hadd] at q
    exact ⟨g, cap, u, rfl, h1, q _ _ q6⟩
end Go.Proofs.YtcdnlkhjlgaaoaaDoor
