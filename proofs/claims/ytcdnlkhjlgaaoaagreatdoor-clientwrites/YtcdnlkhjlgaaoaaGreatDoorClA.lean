/-
  Editors as data; edits in the world; within, length, Equal, ends, base.
-/
import Derived.Test.YtcdnlkhjlgaaoaaGreatDoorDiV
import Derived.Test.YtcdnlkhjlgaaoaaGreatDoorDMa
import Derived.BigQuiet
import Derived.Outline
import Derived.Deep.DeepCutAuto
import Derived.Deep.CutBlock
import Derived.Deep.RegionWith
namespace Go.Proofs.YtcdnlkhjlgaaoaaGreatDoor
open Go.ChangeShapes Go.WideShapes Go.ChangeAt Go.RowKit Go.PlainAid

/-- An edit that waits. -/
structure EdW where
  q : Int
  d : List OpD
/-- An editor. -/
structure EdD where
  c : Int
  b : Int
  r : Int
  t : ByteArray
  s : Int
  p : List EdW
structure EdW.Fit (e : EdW) : Prop where
  q0 : -9223372036854775808 ≤ e.q
  q1 : e.q ≤ 9223372036854775807
  dl : e.d.length ≤ maxLen
  di : ∀ o ∈ e.d, o.In
/-- At v lie edits. -/
def RdEd (w : World) (v : Value) (l : List EdW) : Prop :=
  ∃ ao cp, v = .slice ao l.length cp ∧ (l.length ≤ cp ∧ (ao = none → cp = 0)) ∧ ∀ (i : Nat) (e : EdW), l[i]? = some e → ∃ b off u, ao = some ⟨b, off, none⟩ ∧ b < w.heap.size ∧ w.cell? ⟨b, off + i * 2, none⟩ = some (.int .i64 e.q) ∧ w.cell? ⟨b, off + i * 2 + 1, none⟩ = some u ∧ RdD w u e.d
theorem RdEd.below {w w' : World} {v : Value} {l : List EdW} (h : RdEd w v l) (hb : Below w.heap.size w w') : RdEd w' v l := by
  obtain ⟨ao, cp, e, h0, h1⟩ := h
  refine ⟨ao, cp, e, h0, fun i o hi => ?_⟩
  obtain ⟨b, off, u, e1, hl, c0, c1, c2⟩ := h1 i o hi
  exact ⟨b, off, u, e1, Nat.lt_of_lt_of_le hl hb.size, (hb.cell (p := ⟨b, off + i * 2, none⟩) hl).trans c0, (hb.cell (p := ⟨b, off + i * 2 + 1, none⟩) hl).trans c1, c2.below hb⟩
theorem RdEd.nil (w : World) : RdEd w (.slice none 0 0) [] := ⟨none, 0, rfl, ⟨Nat.le_refl _, fun _ => rfl⟩, fun i o h => by simp at h⟩

/-- Between two numbers. -/
def wtn (lo hi n : Int) : Bool := decide (lo ≤ n) && decide (n ≤ hi)
theorem within_any (lo hi n : Int) (w : World) : Calls Tryz.prog 32 #[.int .i64 lo, .int .i64 hi, .int .i64 n] w fun e w' => e = .returned (.bool (wtn lo hi n)) ∧ w' = w := by
  by_cases h : lo ≤ n
  · have e : wtn lo hi n = decide (n ≤ hi) := by simp [wtn, h]
    rw [e]
    clear e
    go_enter Tryz.func32, Tryz.ntmps32
    go_wp2
    go_ret
    exact ⟨rfl, rfl⟩
  · have e : wtn lo hi n = false := by simp [wtn, h]
    rw [e]
    clear e
    go_enter Tryz.func32, Tryz.ntmps32
    go_wp2
    go_ret
    exact ⟨rfl, rfl⟩
set_option maxRecDepth 20000 in
set_option maxHeartbeats 1000000 in
theorem clen_any (s : ByteArray) (w : World) (hV : VS w) (hs : s.size ≤ 1125899906842624) :
    Calls Tryz.prog 33 #[.string s] w fun e w' => e = .returned (.int .i64 (cpl s)) ∧ Below w.heap.size w w' := by
  have hv := hV s w hs (Below.refl _ _)
  rw [validD_cpl] at hv
  by_cases h : 0 ≤ cpl s
  · have hr := fun W => runes_big s W hs h
    rw [decide_eq_true h] at hv
    go_enter Tryz.func33, Tryz.ntmps33
    go_wp2_with fail
    refine hv.mono ?_
    rintro e w1 ⟨rfl, hb1⟩
    clear hv
    go_wp2_with fail
    refine (hr w1).mono ?_
    rintro e w2 ⟨rfl, hb2⟩
    clear hr
    go_wp2_with fail
    go_ret
    exact ⟨rfl, chain hb1 hb2⟩
  · have e0 : cpl s = -1 := by have := cpl_le s; omega
    rw [decide_eq_false h] at hv
    rw [e0]
    clear e0 h
    go_enter Tryz.func33, Tryz.ntmps33
    go_wp2_with fail
    refine hv.mono ?_
    rintro e w1 ⟨rfl, hb1⟩
    clear hv
    go_wp2_with fail
    go_ret
    exact ⟨rfl, hb1⟩

theorem str_neC {a b : ByteArray} (h : ¬ a = b) : ¬ a.toList = b.toList := fun e => h (by rw [Go.ByteArray.toList_eq, Go.ByteArray.toList_eq] at e; exact ByteArray.ext (Array.toList_inj.1 e))
instance : DecidableEq OpD := fun a b => if h : a.k = b.k ∧ a.n = b.n ∧ a.t = b.t then isTrue (by cases a; cases b; simp_all) else isFalse (fun e => h (by rw [e]; exact ⟨rfl, rfl, rfl⟩))
theorem opd_ne {x y : OpD} (h : x ≠ y) : x.k ≠ y.k ∨ (x.k = y.k ∧ x.n ≠ y.n) ∨ (x.k = y.k ∧ x.n = y.n ∧ x.t ≠ y.t) := by
  by_cases h1 : x.k = y.k
  · by_cases h2 : x.n = y.n
    · exact .inr (.inr ⟨h1, h2, fun h3 => h (by cases x; cases y; simp_all)⟩)
    · exact .inr (.inl ⟨h1, h2⟩)
  · exact .inl h1
theorem take_ne {A B : List OpD} {k : Nat} (hA : k < A.length) (hB : k < B.length) (h : A[k] ≠ B[k]) : A ≠ B := fun e => h (by subst e; rfl)

set_option maxRecDepth 20000 in
set_option maxHeartbeats 1000000 in
theorem equal_any (va vb : Value) (A B : List OpD) (w : World) (hA : RdD w va A) (hB : RdD w vb B) (hm : A.length ≤ maxLen) :
    Calls Tryz.prog 83 #[va, vb] w fun e w' => e = .returned (.bool (decide (A = B))) ∧ Below w.heap.size w w' := by
  obtain ⟨ao, ac, rfl, _, hac⟩ := hA
  obtain ⟨bo, bc, rfl, _, hbc⟩ := hB
  unfold maxLen at hm
  by_cases hl : A.length = B.length
  · obtain ⟨res, Hres⟩ : ∃ res, Hid (decide (A = B) = res) := ⟨_, rfl⟩
    have hl' : ((A.length : Int) != (B.length : Int)) = false := by simp [hl]
    rw [Hres.out]
    go_enter Tryz.func83, Tryz.ntmps83
    go_wp2_with fail
    go_loopw [13] (fun i wr => ∃ k : Nat, k ≤ A.length ∧ i = .int .i64 (k : Int) ∧ Hid (A.take k = B.take k) ∧ Below w.heap.size w wr) (fun i _ => A.length - (intOf i).toNat)
    case atStart => exact ⟨0, by omega, rfl, rfl, Below.refl _ _⟩
    case round =>
      obtain ⟨k, hk, rfl, HT, hbl⟩ := hrel
      by_cases hlt : k < A.length
      · have hlt' : (k : Int) < (A.length : Int) := by omega
        have hltB : k < B.length := by omega
        have hltB' : (k : Int) < (B.length : Int) := by omega
        obtain ⟨b1, o1, rfl, hb1, c0, c1, c2⟩ := hac k A[k] (by simp [hlt])
        obtain ⟨b2, o2, rfl, hb2, d0, d1, d2⟩ := hbc k B[k] (by simp [hltB])
        have hB1 : ∀ o, wr.cell? ⟨b1, o, none⟩ = w.cell? ⟨b1, o, none⟩ := fun o => hbl.cell (p := ⟨b1, o, none⟩) hb1
        have hB2 : ∀ o, wr.cell? ⟨b2, o, none⟩ = w.cell? ⟨b2, o, none⟩ := fun o => hbl.cell (p := ⟨b2, o, none⟩) hb2
        rw [← hB1] at c0 c1 c2
        rw [← hB2] at d0 d1 d2
        clear hB1 hB2 hac hbc
        by_cases he : A[k] = B[k]
        · have HT2 : Hid (A.take (k + 1) = B.take (k + 1)) := by
            show _ = _
            rw [List.take_succ_eq_append_getElem hlt, List.take_succ_eq_append_getElem hltB, HT.out, he]
          rw [he] at c0 c1 c2
          clear he HT
          generalize B[k] = y at *
          go_wp2_with fail
          go_region
          go_wp2_with fail
          exact ⟨⟨k + 1, by omega, by go_num, HT2, Below.drew hbl⟩, by simp [intOf]; omega⟩
        · have Hr : Hid (res = false) := by
            show _ = _
            rw [← Hres.out]
            exact decide_eq_false (take_ne hlt hltB he)
          have hne := opd_ne he
          clear he HT
          generalize A[k] = x at *
          generalize B[k] = y at *
          rcases hne with h1 | ⟨h1, h2⟩ | ⟨h1, h2, h3⟩
          · have h1' : (x.k == y.k) = false := by simpa using h1
            clear h1
            go_wp2_with fail
            go_region
            go_wp2_with fail
            go_ret
            exact ⟨by rw [Hr.out]; rfl, Below.drew hbl⟩
          · have h1' : (x.k == y.k) = true := by simpa using h1
            have h2' : (x.n == y.n) = false := by simpa using h2
            clear h1 h2
            go_wp2_with fail
            go_region
            go_wp2_with fail
            go_ret
            exact ⟨by rw [Hr.out]; rfl, Below.drew hbl⟩
          · have h1' : (x.k == y.k) = true := by simpa using h1
            have h2' : (x.n == y.n) = true := by simpa using h2
            have h3' : ¬ x.t.toList = y.t.toList := str_neC h3
            clear h1 h2 h3
            go_wp2_with fail
            go_region
            go_wp2_with fail
            go_ret
            exact ⟨by rw [Hr.out]; rfl, Below.drew hbl⟩
      · have hlt' : ¬ (k : Int) < (A.length : Int) := by omega
        have Hr : Hid (res = true) := by
          show _ = _
          rw [← Hres.out]
          refine decide_eq_true ?_
          have := HT.out
          rwa [List.take_of_length_le (by omega), List.take_of_length_le (by omega)] at this
        go_wp2_with fail
        go_ret
        exact ⟨by rw [Hr.out]; rfl, hbl⟩
  · have e : decide (A = B) = false := decide_eq_false (fun h => hl (by rw [h]))
    rw [e]
    have hl' : ((A.length : Int) != (B.length : Int)) = true := by simp; omega
    clear e hac hbc
    go_enter Tryz.func83, Tryz.ntmps83
    go_wp2_with fail
    go_ret
    exact ⟨rfl, Below.refl _ _⟩

/-- A delta that is normal and may be. -/
def okD (d : List OpD) : Bool := decide (chk d = 0) && decide (jn (stR d) = d)
theorem rdd_len {w : World} {v : Value} {d : List OpD} (h : RdD w v d) : ∃ ao cp, v = .slice ao d.length cp := by
  obtain ⟨ao, cp, e, _⟩ := h
  exact ⟨ao, cp, e⟩

set_option maxRecDepth 20000 in
set_option maxHeartbeats 1000000 in
theorem ends_any (v : Value) (d : List OpD) (w : World) (hr : RdD w v d) (hm : d.length ≤ maxLen) (hi : ∀ o ∈ d, o.In) :
    Calls Tryz.prog 65 #[v] w fun e w' => e = .returned (if okD d = true then .tuple #[.int .i64 (bsum (stR d) : Int), .int .i64 (tsum (stR d) : Int), .bool true] else .tuple #[.int .i64 0, .int .i64 0, .bool false]) ∧ Below w.heap.size w w' := by
  have cN := normal_any v d w hr hm hi
  have hjm : (jn (stR d)).length ≤ maxLen := by have := (jn_in (stR_ok hi) (stR_bd d).1 (stR_bd d).2).1; unfold maxLen; omega
  obtain ⟨ao, cp, rfl⟩ := rdd_len hr
  by_cases hc : chk d = 0
  · by_cases he : jn (stR d) = d
    · have e : okD d = true := by simp [okD, hc, he]
      rw [if_pos e]
      have cE := fun u W h1 h2 => equal_any u (.slice ao d.length cp) (jn (stR d)) d W h1 h2 hjm
      rw [decide_eq_true he] at cE
      have cB := fun W (hW : Below w.heap.size w W) => base_any (.slice ao d.length cp) d W (hr.below hW) hm hi
      have cT := fun W (hW : Below w.heap.size w W) => target_any (.slice ao d.length cp) d W (hr.below hW) hm hi
      rw [hc] at cN cB cT
      clear e he hc
      go_enter Tryz.func65, Tryz.ntmps65
      go_wp2_with fail
      refine cN.mono ?_
      rintro e w1 ⟨u, rfl, ho1, hb1⟩
      obtain ⟨a1, k1, rfl⟩ := own_form ho1
      go_wp2_with fail
      refine (cE _ _ (rdd_own ho1) (hr.below hb1)).mono ?_
      rintro e w2 ⟨rfl, hb2⟩
      have hB2 := chain hb1 hb2
      clear cN cE
      go_wp2_with fail
      refine (cB _ hB2).mono ?_
      rintro e w3 ⟨rfl, hb3⟩
      have hB3 := chain hB2 hb3
      clear cB
      go_wp2_with fail
      refine (cT _ hB3).mono ?_
      rintro e w4 ⟨rfl, hb4⟩
      clear cT
      go_wp2_with fail
      go_ret3
      exact ⟨rfl, chain hB3 hb4⟩
    · have e : okD d = false := by simp [okD, he]
      rw [e, if_neg (by simp)]
      have cE := fun u W h1 h2 => equal_any u (.slice ao d.length cp) (jn (stR d)) d W h1 h2 hjm
      rw [decide_eq_false he] at cE
      rw [hc] at cN
      clear e he hc
      go_enter Tryz.func65, Tryz.ntmps65
      go_wp2_with fail
      refine cN.mono ?_
      rintro e w1 ⟨u, rfl, ho1, hb1⟩
      obtain ⟨a1, k1, rfl⟩ := own_form ho1
      go_wp2_with fail
      refine (cE _ _ (rdd_own ho1) (hr.below hb1)).mono ?_
      rintro e w2 ⟨rfl, hb2⟩
      clear cN cE
      go_wp2_with fail
      go_ret3
      exact ⟨rfl, chain hb1 hb2⟩
  · have e : okD d = false := by simp [okD, hc]
    rw [e, if_neg (by simp)]
    have hne : (chk d != 0) = true := by simpa using hc
    clear e hc
    generalize chk d = x at *
    go_enter Tryz.func65, Tryz.ntmps65
    go_wp2_with fail
    refine cN.mono ?_
    rintro e w1 ⟨u, rfl, ho1, hb1⟩
    obtain ⟨a1, k1, rfl⟩ := own_form ho1
    clear cN
    go_wp2_with fail
    go_ret3
    exact ⟨rfl, hb1⟩
end Go.Proofs.YtcdnlkhjlgaaoaaGreatDoor

/-
  May an editor be? base, mayWait, mayBe.
-/
namespace Go.Proofs.YtcdnlkhjlgaaoaaGreatDoor
open Go.ChangeShapes Go.WideShapes Go.ChangeAt Go.RowKit Go.PlainAid

/-- An editor as a value; its cells. -/
def EdD.fs (E : EdD) (v : Value) : Array Value := #[.int .i64 E.c, .int .i64 E.b, .int .i64 E.r, .string E.t, .int .i64 E.s, v]
structure EdD.Fit (E : EdD) : Prop where
  s0 : -9223372036854775808 ≤ E.s
  s1 : E.s ≤ 9223372036854775807
  t1 : E.t.size ≤ 140737488355328
  pl : E.p.length ≤ maxLen
  pf : ∀ e ∈ E.p, e.Fit
/-- What its edits were made on. -/
def baseE (E : EdD) : Int := match E.p with
  | [] => cpl E.t
  | e :: _ => (bsum (stR e.d) : Int)
/-- Along the edits that wait: what the last one gives. -/
def wtG : Int → Int → List EdW → Option Int
  | a, _, [] => some a
  | a, q, e :: r => if okD e.d = true ∧ (bsum (stR e.d) : Int) = a ∧ e.q = q then wtG (tsum (stR e.d) : Int) (q + 1) r else none
def mayW (E : EdD) : Bool := decide ((E.p.length : Int) ≤ min 8 E.s) && decide (wtG (baseE E) (E.s - E.p.length + 1) E.p = some (cpl E.t))
def mayE (E : EdD) : Bool := wtn 1 8 E.c && wtn 1 1000000 E.b && wtn 0 1000000 E.r && wtn 0 1000 (cpl E.t) && wtn 0 100000 E.s && mayW E
/-- A boxed editor. -/
def EB (W : World) (g : Nat) (E : EdD) (v : Value) : Prop := W.heap[g]? = some (.cells #[.int .i64 E.c, .int .i64 E.b, .int .i64 E.r, .string E.t, .int .i64 E.s, v] 24)
theorem EB.below {W W' : World} {g : Nat} {E : EdD} {v : Value} (h : EB W g E v) (hb : Below W.heap.size W W') : EB W' g E v := (hb.block g (heap_ltC h)).trans h
where heap_ltC {W : World} {g : Nat} {o : Obj} (h : W.heap[g]? = some o) : g < W.heap.size := (Array.getElem?_eq_some_iff.1 h).1
theorem cellsEB {W : World} {g : Nat} {E : EdD} {v : Value} (h : EB W g E v) : W.cell? ⟨g, 0, none⟩ = some (.int .i64 E.c) ∧ W.cell? ⟨g, 1, none⟩ = some (.int .i64 E.b) ∧ W.cell? ⟨g, 2, none⟩ = some (.int .i64 E.r) ∧ W.cell? ⟨g, 3, none⟩ = some (.string E.t) ∧ W.cell? ⟨g, 4, none⟩ = some (.int .i64 E.s) ∧ W.cell? ⟨g, 5, none⟩ = some v := by
  have q := fun j => cell_of_row W g j _ _ (0, 0) h
  exact ⟨q 0, q 1, q 2, q 3, q 4, q 5⟩
theorem EB.lt {W : World} {g : Nat} {E : EdD} {v : Value} (h : EB W g E v) : g < W.heap.size := (Array.getElem?_eq_some_iff.1 h).1

theorem eb_new (w : World) (E : EdD) (v : Value) : EB (w.alloc (.cells #[.int .i64 E.c, .int .i64 E.b, .int .i64 E.r, .string E.t, .int .i64 E.s, v] 24)) w.heap.size E v := heap_alloc_new w _
theorem EB.lt' {W : World} {g : Nat} {o : Obj} (h : W.heap[g]? = some o) : g < W.heap.size := (Array.getElem?_eq_some_iff.1 h).1
theorem eb_newX (w : World) (q : Int) (u : Value) : (w.alloc (.cells #[.int .i64 q, u] 41)).heap[w.heap.size]? = some (.cells #[.int .i64 q, u] 41) := heap_alloc_new w _
theorem alloc_b (w : World) (o : Obj) : Below w.heap.size w (w.alloc o) := (Below.refl _ w).alloc (Nat.le_refl _) _
set_option maxRecDepth 20000 in
set_option maxHeartbeats 1000000 in
theorem cbase_any (E : EdD) (v : Value) (w : World) (hr : RdEd w v E.p) (hV : VS w) (hF : E.Fit) :
    Calls Tryz.prog 64 #[.agg (E.fs v)] w fun e w' => e = .returned (.int .i64 (baseE E)) ∧ Below w.heap.size w w' := by
  obtain ⟨c, b, r, t, s, p⟩ := E
  have ht := hF.t1
  have hpl := hF.pl
  unfold maxLen at hpl
  simp only at ht hpl hr
  have hA := alloc_b w (.cells #[.int .i64 c, .int .i64 b, .int .i64 r, .string t, .int .i64 s, v] 24)
  obtain ⟨ao, cp, rfl, -, hc⟩ := hr
  unfold EdD.fs
  simp only
  cases p with
  | nil =>
    have cL := clen_any t _ (hV.below hA) (by omega)
    have e : baseE ⟨c, b, r, t, s, []⟩ = cpl t := rfl
    rw [e]
    go_enter Tryz.func64, Tryz.ntmps64
    go_wp2_with fail
    refine cL.mono ?_
    rintro e w1 ⟨rfl, hb1⟩
    go_wp2_with fail
    go_ret
    exact ⟨rfl, chain hA hb1⟩
  | cons x rest =>
    obtain ⟨g, off, u, rfl, hg, c0, c1, c2⟩ := hc 0 x rfl
    have hxf := hF.pf x (by simp)
    have cB := base_any u x.d _ (c2.below hA) hxf.dl hxf.di
    obtain ⟨au, ku, rfl⟩ := rdd_len c2
    have hcx : (w.alloc (.cells #[.int .i64 c, .int .i64 b, .int .i64 r, .string t, .int .i64 s, .slice (some ⟨g, off, none⟩) (rest.length + 1) cp] 24)).cell? ⟨g, off + 1, none⟩ = some (.slice au x.d.length ku) := (hA.cell (p := ⟨g, off + 1, none⟩) hg).trans (by simpa using c1)
    have e : baseE ⟨c, b, r, t, s, x :: rest⟩ = (bsum (stR x.d) : Int) := rfl
    rw [e]
    have hlen : (x :: rest).length = rest.length + 1 := rfl
    rw [hlen] at *
    have hne : (((rest.length + 1 : Nat) : Int) == 0) = false := by simp; omega
    have hlt : (0 : Int) < ((rest.length + 1 : Nat) : Int) := by omega
    clear c0 c1 hc e
    go_enter Tryz.func64, Tryz.ntmps64
    go_wp2_with fail
    refine cB.mono ?_
    rintro e w1 ⟨rfl, hb1⟩
    go_wp2_with fail
    go_ret
    exact ⟨rfl, chain hA hb1⟩

theorem wtG_drop {a q : Int} {l : List EdW} {k : Nat} (h : k < l.length) (ho : okD l[k].d = true) (hb : (bsum (stR l[k].d) : Int) = a) (hq : l[k].q = q) : wtG a q (l.drop k) = wtG (tsum (stR l[k].d) : Int) (q + 1) (l.drop (k + 1)) := by
  rw [List.drop_eq_getElem_cons h, wtG, if_pos ⟨ho, hb, hq⟩]
theorem wtG_bad {a q : Int} {l : List EdW} {k : Nat} (h : k < l.length) (hn : ¬ (okD l[k].d = true ∧ (bsum (stR l[k].d) : Int) = a ∧ l[k].q = q)) : wtG a q (l.drop k) = none := by
  rw [List.drop_eq_getElem_cons h, wtG, if_neg hn]
set_option maxRecDepth 20000 in
set_option maxHeartbeats 1000000 in
theorem mayWait_any (E : EdD) (v : Value) (w : World) (hr : RdEd w v E.p) (hV : VS w) (hF : E.Fit) (h0 : 0 ≤ E.s) (h1 : E.s ≤ 100000) :
    Calls Tryz.prog 34 #[.agg (E.fs v)] w fun e w' => e = .returned (.bool (mayW E)) ∧ Below w.heap.size w w' := by
  have ht := hF.t1
  have hpl := hF.pl
  unfold maxLen at hpl
  have hA := alloc_b w (.cells #[.int .i64 E.c, .int .i64 E.b, .int .i64 E.r, .string E.t, .int .i64 E.s, v] 24)
  have hE := eb_new w E v
  obtain ⟨ao, cp, rfl, -, hc⟩ := id hr
  unfold EdD.fs
  by_cases hn : (E.p.length : Int) ≤ min 8 E.s
  · have hn1 : (E.p.length : Int) ≤ 8 := by omega
    have hn2 : (E.p.length : Int) ≤ E.s := by omega
    have hm : Hid (mayW E = decide (wtG (baseE E) (E.s - E.p.length + 1) E.p = some (cpl E.t))) := by show _ = _; unfold mayW; rw [decide_eq_true hn, Bool.true_and]
    have cB := cbase_any E _ _ (hr.below hA) (hV.below hA) hF
    unfold EdD.fs at cB
    clear hn
    go_enter Tryz.func34, Tryz.ntmps34
    obtain ⟨W, HW⟩ : ∃ W, Hid (W = w.alloc (.cells #[.int .i64 E.c, .int .i64 E.b, .int .i64 E.r, .string E.t, .int .i64 E.s, .slice ao E.p.length cp] 24)) := ⟨_, rfl⟩
    go_upto_region 2 with fail
    rw [← HW.out] at hA hE cB ⊢
    obtain ⟨f0, f1, f2, f3, f4, f5⟩ := cellsEB hE
    go_cut [17] (fun v wx => v = .bool false ∧ W = wx)
    case first =>
      clear cB
      go_wp2_with fail
      all_goals
        go_meet
        exact ⟨by first | rfl | (simp; omega), rfl⟩
    obtain ⟨rfl, rfl⟩ := hcut
    go_wp2_with fail
    refine cB.mono ?_
    rintro e w1 ⟨rfl, hb1⟩
    have hE1 := hE.below hb1
    have hB1 := chain hA hb1
    clear cB
    obtain ⟨-, -, -, e3, e4, e5⟩ := cellsEB hE1
    go_wp2_with fail
    go_loopw [4, 23] (fun a i wr => ∃ (k : Nat) (at_ : Int), k ≤ E.p.length ∧ i = .int .i64 (k : Int) ∧ a = .int .i64 at_ ∧ Hid (wtG (baseE E) (E.s - E.p.length + 1) E.p = wtG at_ (E.s - E.p.length + 1 + k) (E.p.drop k)) ∧ EB wr w.heap.size E (.slice ao E.p.length cp) ∧ Below w.heap.size w wr) (fun _ i _ => E.p.length - (intOf i).toNat)
    case atStart => exact ⟨0, _, by omega, rfl, rfl, by show _ = _; simp, hE1, hB1⟩
    case round =>
      clear hE1 hB1 e3 e4 e5
      obtain ⟨k, at_, hk, rfl, rfl, HG, hEr, hBr⟩ := hrel
      obtain ⟨-, -, -, e3, e4, e5⟩ := cellsEB hEr
      by_cases hlt : k < E.p.length
      · have hlt' : (k : Int) < (E.p.length : Int) := by omega
        obtain ⟨g, off, u, rfl, hg, c0, c1, c2⟩ := hc k E.p[k] (by simp [hlt])
        have hxf := hF.pf E.p[k] (List.getElem_mem hlt)
        have hBg : ∀ o, wr.cell? ⟨g, o, none⟩ = w.cell? ⟨g, o, none⟩ := fun o => hBr.cell (p := ⟨g, o, none⟩) hg
        rw [← hBg] at c0 c1
        have hq := hxf.q0
        have hq1 := hxf.q1
        obtain ⟨au, ku, rfl⟩ := rdd_len c2
        have hgood := fun h1 h2 h3 => wtG_drop (a := at_) (q := E.s - E.p.length + 1 + k) hlt h1 h2 h3
        have hbad := fun h => wtG_bad (a := at_) (q := E.s - E.p.length + 1 + k) hlt h
        have cE := fun W hW => ends_any (.slice au E.p[k].d.length ku) E.p[k].d W (c2.below hW) hxf.dl hxf.di
        generalize E.p[k] = x at *
        have cE := cE (wr.alloc (.cells #[.int .i64 x.q, .slice au x.d.length ku] 41)) (chain hBr (alloc_b _ _))
        clear hc hBg c2 hxf
        have fin : wtG (baseE E) (E.s - E.p.length + 1) E.p = none → Hid (mayW E = false) := fun h => by
          show _ = _
          rw [hm.out, h]
          rfl
        have hxE := eb_newX wr x.q (.slice au x.d.length ku)
        have hEx := hEr.below (alloc_b wr (.cells #[.int .i64 x.q, .slice au x.d.length ku] 41))
        have hBx := chain hBr (alloc_b wr (.cells #[.int .i64 x.q, .slice au x.d.length ku] 41))
        by_cases ho : okD x.d = true
        · rw [if_pos ho] at cE
          obtain ⟨bb, Hbb⟩ : ∃ bb : Int, Hid ((bsum (stR x.d) : Int) = bb) := ⟨_, rfl⟩
          obtain ⟨tt, Htt⟩ : ∃ tt : Int, Hid ((tsum (stR x.d) : Int) = tt) := ⟨_, rfl⟩
          rw [Hbb.out, Htt.out] at cE
          rw [Hbb.out, Htt.out] at hgood
          rw [Hbb.out] at hbad
          by_cases hbt : bb = at_
          · have hbt' : (bb != at_) = false := by simpa using hbt
            by_cases hqt : x.q = E.s - (E.p.length : Int) + 1 + (k : Int)
            · have hqt' : (x.q != E.s - (E.p.length : Int) + 1 + (k : Int)) = false := by simpa using hqt
              have HG2 : Hid (wtG (baseE E) (E.s - E.p.length + 1) E.p = wtG tt (E.s - E.p.length + 1 + ((k + 1 : Nat) : Int)) (E.p.drop (k + 1))) := by
                show _ = _
                rw [HG.out, hgood ho hbt hqt]
                congr 1
                omega
              clear hgood hbad HG fin hbt hqt ho
              go_wp2_with (go_at_call 65; refine cE.mono ?_; rintro e w3 ⟨rfl, hb3⟩; have hx3 := (hb3.block _ (EB.lt' hxE)).trans hxE; have y0 := cell_of_row w3 wr.heap.size 0 _ _ (0, 0) hx3; have y1 := cell_of_row w3 wr.heap.size 1 _ _ (0, 0) hx3; obtain ⟨z0, z1, z2, z3, z4, z5⟩ := cellsEB (hEx.below hb3); have hE3 := hEx.below hb3; have hB3 := chain hBx hb3)
              exact ⟨⟨k + 1, tt, by omega, by go_num, rfl, HG2, hE3, hB3⟩, by simp [intOf]; omega⟩
            · have hqt' : (x.q != E.s - (E.p.length : Int) + 1 + (k : Int)) = true := by simpa using hqt
              have hf := fin (by rw [HG.out]; exact hbad (fun h => hqt h.2.2))
              clear hgood hbad HG fin hbt hqt ho
              go_wp2_with (go_at_call 65; refine cE.mono ?_; rintro e w3 ⟨rfl, hb3⟩; have hx3 := (hb3.block _ (EB.lt' hxE)).trans hxE; have y0 := cell_of_row w3 wr.heap.size 0 _ _ (0, 0) hx3; have y1 := cell_of_row w3 wr.heap.size 1 _ _ (0, 0) hx3; obtain ⟨z0, z1, z2, z3, z4, z5⟩ := cellsEB (hEx.below hb3); have hE3 := hEx.below hb3; have hB3 := chain hBx hb3)
              go_ret
              exact ⟨by rw [hf.out]; rfl, hB3⟩
          · have hbt' : (bb != at_) = true := by simpa using hbt
            have hf := fin (by rw [HG.out]; exact hbad (fun h => hbt h.2.1))
            clear hgood hbad HG fin hbt ho
            go_wp2_with (go_at_call 65; refine cE.mono ?_; rintro e w3 ⟨rfl, hb3⟩; have hx3 := (hb3.block _ (EB.lt' hxE)).trans hxE; have y0 := cell_of_row w3 wr.heap.size 0 _ _ (0, 0) hx3; have y1 := cell_of_row w3 wr.heap.size 1 _ _ (0, 0) hx3; obtain ⟨z0, z1, z2, z3, z4, z5⟩ := cellsEB (hEx.below hb3); have hE3 := hEx.below hb3; have hB3 := chain hBx hb3)
            go_ret
            exact ⟨by rw [hf.out]; rfl, hB3⟩
        · rw [if_neg ho] at cE
          have hf := fin (by rw [HG.out]; exact hbad (fun h => ho h.1))
          clear hgood hbad HG fin ho
          go_wp2_with (go_at_call 65; refine cE.mono ?_; rintro e w3 ⟨rfl, hb3⟩; have hx3 := (hb3.block _ (EB.lt' hxE)).trans hxE; have y0 := cell_of_row w3 wr.heap.size 0 _ _ (0, 0) hx3; have y1 := cell_of_row w3 wr.heap.size 1 _ _ (0, 0) hx3; obtain ⟨z0, z1, z2, z3, z4, z5⟩ := cellsEB (hEx.below hb3); have hE3 := hEx.below hb3; have hB3 := chain hBx hb3)
          go_ret
          exact ⟨by rw [hf.out]; rfl, hB3⟩
      · have hlt' : ¬ (k : Int) < (E.p.length : Int) := by omega
        have cL := clen_any E.t wr (hV.below hBr) (by omega)
        have hf : Hid (mayW E = (at_ == cpl E.t)) := by
          show _ = _
          rw [hm.out, HG.out, List.drop_eq_nil_of_le (by omega), wtG]
          by_cases h : at_ = cpl E.t
          · simp [h]
          · have : (at_ == cpl E.t) = false := by simpa using h
            rw [this]
            simp [h]
        clear HG hc
        generalize cpl E.t = n at *
        go_wp2_with (go_at_call 33; refine cL.mono ?_; rintro e w3 ⟨rfl, hb3⟩)
        go_ret
        exact ⟨by rw [hf.out]; rfl, chain hBr hb3⟩
  · have hm : mayW E = false := by unfold mayW; rw [decide_eq_false hn, Bool.false_and]
    rw [hm]
    by_cases h8 : 8 ≤ E.s
    · have hn' : 8 < (E.p.length : Int) := by omega
      clear hn hm
      go_enter Tryz.func34, Tryz.ntmps34
      go_wp2_with fail
      all_goals
        go_ret
        exact ⟨rfl, hA⟩
    · have hn' : E.s < (E.p.length : Int) := by omega
      have h8' : E.s < 8 := by omega
      clear hn hm
      go_enter Tryz.func34, Tryz.ntmps34
      go_wp2_with fail
      all_goals
        go_ret
        exact ⟨rfl, hA⟩
set_option maxRecDepth 20000 in
set_option maxHeartbeats 1000000 in
theorem mayBe_any (E : EdD) (v : Value) (w : World) (hr : RdEd w v E.p) (hV : VS w) (hF : E.Fit) :
    Calls Tryz.prog 11 #[.agg (E.fs v)] w fun e w' => e = .returned (.bool (mayE E)) ∧ Below w.heap.size w w' := by
  have ht := hF.t1
  have hA := alloc_b w (.cells #[.int .i64 E.c, .int .i64 E.b, .int .i64 E.r, .string E.t, .int .i64 E.s, v] 24)
  have hE := eb_new w E v
  obtain ⟨ao, cp, rfl, -, -⟩ := id hr
  have c1 := fun W => within_any 1 8 E.c W
  have c2 := fun W => within_any 1 1000000 E.b W
  have c3 := fun W => within_any 0 1000000 E.r W
  have c4 := fun W => within_any 0 1000 (cpl E.t) W
  have c5 := fun W => within_any 0 100000 E.s W
  have cL := clen_any E.t _ (hV.below hA) (by omega)
  have cW := fun W (hW : Below w.heap.size w W) (h5 : wtn 0 100000 E.s = true) => mayWait_any E _ W (hr.below hW) (hV.below hW) hF (by simp [wtn] at h5; omega) (by simp [wtn] at h5; omega)
  have hm : Hid (mayE E = (wtn 1 8 E.c && wtn 1 1000000 E.b && wtn 0 1000000 E.r && wtn 0 1000 (cpl E.t) && wtn 0 100000 E.s && mayW E)) := rfl
  unfold EdD.fs at cW ⊢
  obtain ⟨f0, f1, f2, f3, f4, f5⟩ := cellsEB hE
  generalize mayE E = m at *
  generalize mayW E = m6 at *
  generalize wtn 0 100000 E.s = m5 at *
  generalize wtn 0 1000 (cpl E.t) = m4 at *
  generalize wtn 0 1000000 E.r = m3 at *
  generalize wtn 1 1000000 E.b = m2 at *
  generalize wtn 1 8 E.c = m1 at *
  generalize cpl E.t = n at *
  cases m1 with
  | false =>
    have hm' : Hid (m = false) := by show _ = _; rw [hm.out]; simp
    clear hm c2 c3 c4 c5 cL cW
    go_enter Tryz.func11, Tryz.ntmps11
    go_wp2_with (go_at_call 32; refine (c1 _).mono ?_; rintro e w1 ⟨rfl, rfl⟩)
    go_ret
    exact ⟨by rw [hm'.out]; rfl, hA⟩
  | true =>
    cases m2 with
    | false =>
      have hm' : Hid (m = false) := by show _ = _; rw [hm.out]; simp
      clear hm c3 c4 c5 cL cW
      go_enter Tryz.func11, Tryz.ntmps11
      go_wp2_with fail
      refine (c1 _).mono ?_
      rintro e w1 ⟨rfl, rfl⟩
      go_wp2_with fail
      refine (c2 _).mono ?_
      rintro e w1 ⟨rfl, rfl⟩
      go_wp2_with fail
      go_ret
      exact ⟨by rw [hm'.out]; rfl, hA⟩
    | true =>
      cases m3 with
      | false =>
        have hm' : Hid (m = false) := by show _ = _; rw [hm.out]; simp
        clear hm c4 c5 cL cW
        go_enter Tryz.func11, Tryz.ntmps11
        go_wp2_with fail
        refine (c1 _).mono ?_
        rintro e w1 ⟨rfl, rfl⟩
        go_wp2_with fail
        refine (c2 _).mono ?_
        rintro e w1 ⟨rfl, rfl⟩
        go_wp2_with fail
        refine (c3 _).mono ?_
        rintro e w1 ⟨rfl, rfl⟩
        go_wp2_with fail
        go_ret
        exact ⟨by rw [hm'.out]; rfl, hA⟩
      | true =>
        have hm' : Hid (m = (m4 && m5 && m6)) := by show _ = _; rw [hm.out]; simp
        clear hm
        go_enter Tryz.func11, Tryz.ntmps11
        go_wp2_with fail
        refine (c1 _).mono ?_
        rintro e w1 ⟨rfl, rfl⟩
        go_wp2_with fail
        refine (c2 _).mono ?_
        rintro e w1 ⟨rfl, rfl⟩
        go_wp2_with fail
        refine (c3 _).mono ?_
        rintro e w1 ⟨rfl, rfl⟩
        clear c1 c2 c3
        go_wp2_with fail
        refine cL.mono ?_
        rintro e w2 ⟨rfl, hb2⟩
        have hE2 := hE.below hb2
        have hB2 := chain hA hb2
        obtain ⟨g0, g1, g2, g3, g4, g5⟩ := cellsEB hE2
        clear cL f0 f1 f2 f3 f4 f5
        go_wp2_with fail
        refine (c4 _).mono ?_
        rintro e w3 ⟨rfl, rfl⟩
        clear c4
        cases m4 with
        | false =>
          go_wp2_with fail
          go_ret
          exact ⟨by rw [hm'.out]; rfl, hB2⟩
        | true =>
          go_wp2_with fail
          refine (c5 _).mono ?_
          rintro e w3 ⟨rfl, rfl⟩
          clear c5
          cases m5 with
          | false =>
            go_wp2_with fail
            go_ret
            exact ⟨by rw [hm'.out]; rfl, hB2⟩
          | true =>
            go_wp2_with fail
            refine (cW _ hB2 trivial).mono ?_
            rintro e w4 ⟨rfl, hb4⟩
            clear cW
            go_wp2_with fail
            go_ret
            exact ⟨by rw [hm'.out]; simp, chain hB2 hb4⟩
end Go.Proofs.YtcdnlkhjlgaaoaaGreatDoor

/-
  Edits in memory of their own; copied, waiting.
-/
namespace Go.Proofs.YtcdnlkhjlgaaoaaGreatDoor
open Go.ChangeShapes Go.WideShapes Go.ChangeAt Go.RowKit Go.PlainAid

/-- The cells of edits, with where their deltas lie. -/
def ecs : List EdW → List Value → List Value
  | e :: l, u :: us => .int .i64 e.q :: u :: ecs l us
  | _, _ => []
theorem ecs_len : ∀ (l : List EdW) (us : List Value), us.length = l.length → (ecs l us).length = l.length * 2
  | [], [], _ => rfl
  | e :: l, u :: us, h => by simp [ecs, ecs_len l us (by simpa using h)]; omega
  | [], _ :: _, h => by simp at h
  | _ :: _, [], h => by simp at h
theorem ecs_app : ∀ (l : List EdW) (us : List Value) (e : EdW) (u : Value), us.length = l.length → ecs (l ++ [e]) (us ++ [u]) = ecs l us ++ [.int .i64 e.q, u]
  | [], [], _, _, _ => rfl
  | x :: l, y :: us, e, u, h => by simp [ecs, ecs_app l us e u (by simpa using h)]
  | [], _ :: _, _, _, h => by simp at h
  | _ :: _, [], _, _, h => by simp at h
theorem ecs_at : ∀ (l : List EdW) (us : List Value) (i : Nat) (e : EdW), us.length = l.length → l[i]? = some e → ∃ u, us[i]? = some u ∧ (ecs l us)[i * 2]? = some (.int .i64 e.q) ∧ (ecs l us)[i * 2 + 1]? = some u
  | x :: l, y :: us, 0, e, _, h => by
    simp at h
    subst h
    exact ⟨y, rfl, rfl, rfl⟩
  | x :: l, y :: us, i + 1, e, h, hi => by
    obtain ⟨u, h1, h2, h3⟩ := ecs_at l us i e (by simpa using h) (by simpa using hi)
    exact ⟨u, by simpa using h1, by rw [show (i + 1) * 2 = i * 2 + 1 + 1 by omega]; simpa [ecs] using h2, by rw [show (i + 1) * 2 + 1 = i * 2 + 1 + 1 + 1 by omega]; simpa [ecs] using h3⟩
  | [], [], _, _, _, h => by simp at h
  | [], _ :: _, _, _, h, _ => by simp at h
  | _ :: _, [], _, _, h, _ => by simp at h
/-- At v lie edits, in memory from B on. -/
structure OwEd (W : World) (B : Nat) (v : Value) (l : List EdW) (us : List Value) : Prop where
  ul : us.length = l.length
  row : W.ownsRow B 41 2 v l.length (ecs l us)
  dl : ∀ (i : Nat) (e : EdW) (u : Value), l[i]? = some e → us[i]? = some u → W.ownsRow B 59 3 u e.d.length (ocs e.d)
theorem OwEd.nil (W : World) (B : Nat) : OwEd W B (.slice none 0 0) [] [] := ⟨rfl, World.ownsRow_nil _ _ _ _, fun i e u h => by simp at h⟩
theorem OwEd.below {W W' : World} {B : Nat} {v : Value} {l : List EdW} {us : List Value} (h : OwEd W B v l us) (hb : Below W.heap.size W W') : OwEd W' B v l us :=
  ⟨h.ul, own_belowG h.row hb, fun i e u h1 h2 => own_belowG (h.dl i e u h1 h2) hb⟩
theorem OwEd.lower {W : World} {B B' : Nat} {v : Value} {l : List EdW} {us : List Value} (h : OwEd W B v l us) (hb : B' ≤ B) : OwEd W B' v l us :=
  ⟨h.ul, own_lower h.row hb, fun i e u h1 h2 => own_lower (h.dl i e u h1 h2) hb⟩
theorem OwEd.rd {W : World} {B : Nat} {v : Value} {l : List EdW} {us : List Value} (h : OwEd W B v l us) : RdEd W v l := by
  have hr := h.row
  rcases hr.2 with ⟨rfl, h0⟩ | ⟨g, cap, cur, rfl, _, hg, hn, _, _, ht⟩
  · have : l = [] := List.length_eq_zero_iff.1 h0
    subst this
    exact RdEd.nil W
  · refine ⟨_, _, rfl, ⟨hn, by simp⟩, fun i e hi => ?_⟩
    obtain ⟨u, h1, h2, h3⟩ := ecs_at l us i e h.ul hi
    have q := hr.cells (g := g) rfl
    have hadd : ∀ k, (⟨g, 0, none⟩ : Addr).add k = ⟨g, k, none⟩ := fun k => by unfold Addr.add; split <;> simp_all
    have q0 := q _ _ h2
    have q1 := q _ _ h3
    rw [hadd] at q0 q1
    exact ⟨g, 0, u, rfl, EB.lt' hg, by simpa using q0, by simpa using q1, rdd_own (h.dl i e u hi h1)⟩
/-- One more. -/
theorem OwEd.app {W W' : World} {B : Nat} {v v' : Value} {l : List EdW} {us : List Value} {e : EdW} {u : Value} (h : OwEd W B v l us) (hu : W.ownsRow B 59 3 u e.d.length (ocs e.d)) (ho : W'.ownsRow B 41 2 v' (l.length + 1) (ecs l us ++ [.int .i64 e.q, u])) (hg : W.grownBy W' v.ownBlock) : OwEd W' B v' (l ++ [e]) (us ++ [u]) := by
  refine ⟨by simp [h.ul], by rw [List.length_append, ecs_app l us e u h.ul]; exact ho, fun i x y h1 h2 => ?_⟩
  by_cases hi : i < l.length
  · rw [List.getElem?_append_left hi] at h1
    rw [List.getElem?_append_left (by rw [h.ul]; exact hi)] at h2
    have hd := h.dl i x y h1 h2
    exact hd.kept hg (own_apart hd h.row (by decide))
  · rw [List.getElem?_append_right (by omega)] at h1
    rw [List.getElem?_append_right (by rw [h.ul]; omega), h.ul] at h2
    have h0 : i - l.length = 0 := by
      rcases Nat.eq_zero_or_pos (i - l.length) with h0 | h0
      · exact h0
      · rw [List.getElem?_eq_none (by simp; omega)] at h1; cases h1
    rw [h0] at h1 h2
    simp at h1 h2
    subst h1 h2
    exact hu.kept hg (own_apart hu h.row (by decide))
/-- What copied makes of an edit. -/
def EdW.cp (e : EdW) : EdW := ⟨e.q, jn (stR e.d)⟩
theorem cp_ok {e : EdW} (h : okD e.d = true) : e.cp = e := by
  cases e
  simp [okD] at h
  simp [EdW.cp, h.2]
theorem Tryz.sizeEd : (Tryz.prog.info? 41).map (·.size) = some 2 := by kernel_rfl
theorem Tryz.infoEd : (Tryz.prog.info? 41).map (fun i => (i.zero, i.size, i.bytes)) = some (some (.agg #[.int .i64 0, .slice none 0 0]), 2, 32) := by kernel_rfl

set_option maxRecDepth 20000 in
set_option maxHeartbeats 1000000 in
theorem copiedE_any (e : EdW) (u : Value) (w : World) (hr : RdD w u e.d) (hF : e.Fit) :
    Calls Tryz.prog 61 #[.agg #[.int .i64 e.q, u]] w fun e' w' => ∃ u', e' = .returned (.agg #[.int .i64 e.q, u']) ∧ w'.ownsRow w.heap.size 59 3 u' (jn (stR e.d)).length (ocs (jn (stR e.d))) ∧ Below w.heap.size w w' := by
  obtain ⟨au, ku, rfl⟩ := rdd_len hr
  have hA := (alloc_b w (.cells #[.int .i64 e.q, .slice au e.d.length ku] 41)).alloc (by simp) (.cells #[.int .i64 0, .slice none 0 0] 41)
  have cN := normal_any _ e.d _ (hr.below hA) hF.dl hF.di
  have hx := (Below.heap_alloc (w.alloc (.cells #[.int .i64 e.q, .slice au e.d.length ku] 41)) (.cells #[.int .i64 0, .slice none 0 0] 41) w.heap.size (by simp)).trans (eb_newX w e.q (.slice au e.d.length ku))
  have hy := eb_newX (w.alloc (.cells #[.int .i64 e.q, .slice au e.d.length ku] 41)) 0 (.slice none 0 0)
  rw [World.size_alloc] at hy
  go_enter Tryz.func61, Tryz.ntmps61
  go_wp2_with fail
  refine cN.mono ?_
  rintro e' w1 ⟨u1, rfl, ho1, hb1⟩
  obtain ⟨a1, k1, rfl⟩ := own_form ho1
  have hx1 := (hb1.block _ (EB.lt' hx)).trans hx
  have hy1 := (hb1.block _ (EB.lt' hy)).trans hy
  have x0 := cell_of_row w1 w.heap.size 0 _ _ (0, 0) hx1
  have x1 := cell_of_row w1 w.heap.size 1 _ _ (0, 0) hx1
  have y0 := cell_of_row w1 (w.heap.size + 1) 0 _ _ (0, 0) hy1
  have y1 := cell_of_row w1 (w.heap.size + 1) 1 _ _ (0, 0) hy1
  simp at x0 x1 y0 y1
  have zx := frz hx1 1
  have zy0 := frz hy1 0
  have zy1 := frz hy1 1
  go_wp2_with fail
  have hs2 : ((w.alloc (.cells #[.int .i64 e.q, .slice au e.d.length ku] 41)).alloc (.cells #[.int .i64 0, .slice none 0 0] 41)).heap.size = w.heap.size + 1 + 1 := by simp
  have ho2 := ownsRow_setCell_below (ownsRow_setCell_below (ownsRow_setCell_below ho1 (a := ⟨w.heap.size, 1, none⟩) (by rw [hs2]; simp; omega) (.slice a1 (jn (stR e.d)).length k1)) (a := ⟨w.heap.size + 1, 0, none⟩) (by rw [hs2]; simp) (.int .i64 e.q)) (a := ⟨w.heap.size + 1, 1, none⟩) (by rw [hs2]; simp) (.slice a1 (jn (stR e.d)).length k1)
  have hB1 := chain hA hb1
  have hB4 := ((hB1.setCell (p := ⟨w.heap.size, 1, none⟩) (by simp) (.slice a1 (jn (stR e.d)).length k1)).setCell (p := ⟨w.heap.size + 1, 0, none⟩) (by simp) (.int .i64 e.q)).setCell (p := ⟨w.heap.size + 1, 1, none⟩) (by simp) (.slice a1 (jn (stR e.d)).length k1)
  have hy2 := (Below.heap_setCell w1 ⟨w.heap.size, 1, none⟩ (.slice a1 (jn (stR e.d)).length k1) (w.heap.size + 1) (by simp)).trans hy1
  have hfin := heap_setCell (heap_setCell hy2 0 (.int .i64 e.q)) 1 (.slice a1 (jn (stR e.d)).length k1)
  refine bodyPost_ret (results_cell_row rfl _ _ (w.heap.size + 1) 41 _ (0, 0) _ rfl hfin Tryz.underlying41 rfl Tryz.sizeEd) rfl ?_
  exact ⟨_, rfl, own_lower ho2 (by rw [hs2]; omega), hB4⟩
theorem two_one (q : Int) (ao : Option Addr) (n c : Nat) : ∀ u ∈ [Value.int .i64 q, .slice ao n c], u.oneCell' = true := by
  intro u hu
  simp at hu
  rcases hu with rfl | rfl <;> rfl
theorem rded_len {w : World} {v : Value} {l : List EdW} (h : RdEd w v l) : ∃ ao cp, v = .slice ao l.length cp := by
  obtain ⟨ao, cp, e, _⟩ := h
  exact ⟨ao, cp, e⟩
set_option maxRecDepth 20000 in
set_option maxHeartbeats 1000000 in
theorem waiting_any (v : Value) (l : List EdW) (w : World) (hr : RdEd w v l) (hl : l.length ≤ 1000000) (hF : ∀ e ∈ l, e.Fit) :
    Calls Tryz.prog 81 #[v] w fun e w' => ∃ u us, e = .returned u ∧ OwEd w' w.heap.size u (l.map EdW.cp) us ∧ Below w.heap.size w w' := by
  obtain ⟨ao, cp, rfl, -, hc⟩ := id hr
  obtain ⟨i0, hin, hz0, hz1, hz2⟩ := info_parts Tryz.infoEd
  go_enter Tryz.func81, Tryz.ntmps81
  go_wp2_with fail
  go_loopw [3, 8] (fun a i wr => ∃ (k : Nat) (us : List Value), k ≤ l.length ∧ i = .int .i64 (k : Int) ∧ OwEd wr w.heap.size a ((l.take k).map EdW.cp) us ∧ Below w.heap.size w wr) (fun _ i _ => l.length - (intOf i).toNat)
  case atStart => exact ⟨0, [], by omega, rfl, by simpa using OwEd.nil w w.heap.size, Below.refl _ _⟩
  case round =>
    obtain ⟨k, us, hk, rfl, ho, hbl⟩ := hrel
    by_cases hlt : k < l.length
    · have hlt' : (k : Int) < (l.length : Int) := by omega
      obtain ⟨g, off, u, rfl, hg, c0, c1, c2⟩ := hc k l[k] (by simp [hlt])
      have hxf := hF l[k] (List.getElem_mem hlt)
      have hBg : ∀ o, wr.cell? ⟨g, o, none⟩ = w.cell? ⟨g, o, none⟩ := fun o => hbl.cell (p := ⟨g, o, none⟩) hg
      rw [← hBg] at c0 c1
      obtain ⟨au, ku, rfl⟩ := rdd_len c2
      have Htk : Hid ((l.take (k + 1)).map EdW.cp = (l.take k).map EdW.cp ++ [l[k].cp]) := by show _ = _; rw [List.take_succ_eq_append_getElem hlt, List.map_append]; rfl
      have hlen : Hid (((l.take k).map EdW.cp).length = k) := by show _ = _; simp; omega
      generalize (l.take k).map EdW.cp = L0 at *
      generalize l[k] = x at *
      have hAx := alloc_b wr (.cells #[.int .i64 x.q, .slice au x.d.length ku] 41)
      have cC := copiedE_any x _ _ (c2.below (chain hbl hAx)) hxf
      have hrow := ho.row
      obtain ⟨a0, k0, rfl⟩ := own_form hrow
      clear hc hBg c2 hxf
      go_wp2_with fail
      refine cC.mono ?_
      rintro e w2 ⟨u2, rfl, ho2, hb2⟩
      obtain ⟨a2, k2, rfl⟩ := own_form ho2
      have hB2 := chain hAx hb2
      have hoE := (ho.below hB2).below (alloc_b w2 (.cells #[.int .i64 x.q, .slice a2 (jn (stR x.d)).length k2] 41))
      have hoD := own_lower (own_belowG ho2 (alloc_b w2 (.cells #[.int .i64 x.q, .slice a2 (jn (stR x.d)).length k2] 41))) (b' := w.heap.size) (by have := hbl.size; simp; omega)
      clear cC
      go_wp2_with (at_builtin; refine wpList_append_own _ rfl (.tmp 12) (.tmp 15) 22 rfl w.heap.size 41 i0 (.agg #[.int .i64 0, .slice none 0 0]) 2 32 Tryz.underlying22 hin hz0 hz1 hz2 rfl (by decide) _ L0.length _ rfl hoE.row ⟨_, 0, none⟩ 1 1 [.int .i64 x.q, .slice a2 (jn (stR x.d)).length k2] rfl rfl (many_new _ _ _) (two_one _ _ _ _) (by have := hlen.out; unfold maxLen; omega) (by have := hlen.out; omega) (by have := hbl.size; have := hB2.size; simp; omega) ?_; intro v4 w4 ho4 hg4 _)
      have hnew := OwEd.app (e := x.cp) hoE hoD ho4 hg4
      rw [← Htk.out] at hnew
      have hbl4 : Below w.heap.size w w4 := (chain hbl (chain hB2 (alloc_b w2 _))).grown hg4 (by have := hbl.size; have := hB2.size; simp; omega) (fun j hj => (hoE.row.lt j hj).1)
      exact ⟨⟨k + 1, us ++ [.slice a2 (jn (stR x.d)).length k2], by omega, by go_num, hnew, hbl4⟩, by simp [intOf]; omega⟩
    · have hlt' : ¬ (k : Int) < (l.length : Int) := by omega
      have hkl : k = l.length := by omega
      subst hkl
      rw [List.take_length] at ho
      go_wp2_with fail
      go_ret
      exact ⟨_, rfl, ⟨us, ho⟩, hbl⟩
end Go.Proofs.YtcdnlkhjlgaaoaaGreatDoor
