/-
  The contract of what units gives.
-/
import Derived.Test.YtgabanndjiegdabOtE
import Derived.Deep.RegionWith
import Derived.Deep.DeepCutAuto
namespace Go.Proofs.Ytgabanndjiegdab
open Go.ChangeShapes Go.WideShapes Go.ChangeAt Go.RowKit Go.PlainAid

/-- What is answered behind the last one. -/
def zop : OpD := ⟨0, 0, ⟨#[]⟩⟩
def hdU : List U → OpD
  | [] => zop
  | u :: _ => uop u

set_option maxRecDepth 20000 in
set_option maxHeartbeats 1500000 in
theorem next_none {w : World} {p q : Nat} {rv dv : Value} {B : List Nat} (h : It w p q [] [] rv dv B) :
    Calls Try.prog 58 #[.pointer (some ⟨p, 0, none⟩), .pointer (some ⟨q, 0, none⟩)] w fun e w' => e = .returned zop.val ∧ Below w.heap.size w w' := by
  obtain ⟨ao, cp, rfl, _⟩ := h.r
  obtain ⟨ao', cp', rfl, _⟩ := h.d
  have hlp := h.lt p h.pb
  have hlq := h.lt q h.qb
  have c1 : ∀ x, (w.alloc x).cell? ⟨p, 0, none⟩ = some (.slice ao 0 cp) := fun x => by rw [World.cell?_alloc_past _ _ _ hlp]; exact cell_of_row _ _ 0 _ _ (0, 0) h.cp
  have c2 : ∀ x, (w.alloc x).cell? ⟨q, 0, none⟩ = some (.slice ao' 0 cp') := fun x => by rw [World.cell?_alloc_past _ _ _ hlq]; exact cell_of_row _ _ 0 _ _ (0, 0) h.cq
  go_enter Try.func58, Try.ntmps58
  go_wp2_with fail
  refine bodyPost_ret (results_cell_row rfl _ _ w.heap.size 35 _ (0, 0) _ rfl (heap_alloc_new w _) Try.underlying35 rfl Try.sizeOp) rfl ?_
  exact ⟨rfl, (Below.refl _ _).alloc (Nat.le_refl _) _⟩

set_option maxRecDepth 20000 in
set_option maxHeartbeats 1500000 in
theorem next_rest {w : World} {p q : Nat} {u : U} {R : List U} {ds : List St} {rv dv : Value} {B : List Nat} (h : It w p q (u :: R) ds rv dv B) :
    Calls Try.prog 58 #[.pointer (some ⟨p, 0, none⟩), .pointer (some ⟨q, 0, none⟩)] w fun e w' => e = .returned (uop u).val ∧ ItL w' p q (R ++ uw ds) B ∧ Only [p] w w' := by
  obtain ⟨b, o, cp, rv', rfl, hb, c0, c1, c2, hsl, hr', hob⟩ := rdd_tail h.r
  have hlp := h.lt p h.pb
  have hcp := cell_of_row _ _ 0 _ _ (0, 0) h.cp
  have a1 : ∀ x, (w.alloc x).cell? ⟨p, 0, none⟩ = _ := fun x => (World.cell?_alloc_past _ _ _ hlp).trans hcp
  have a2 : ∀ x, (w.alloc x).cell? ⟨b, o, none⟩ = _ := fun x => (World.cell?_alloc_past _ _ _ hb).trans c0
  have a3 : ∀ x, (w.alloc x).cell? ⟨b, o + 1, none⟩ = _ := fun x => (World.cell?_alloc_past _ _ _ hb).trans c1
  have a4 : ∀ x, (w.alloc x).cell? ⟨b, o + 2, none⟩ = _ := fun x => (World.cell?_alloc_past _ _ _ hb).trans c2
  have b1 : ∀ x y, ((w.alloc x).alloc y).cell? ⟨p, 0, none⟩ = _ := fun x y => (World.cell?_alloc_past _ _ _ (by simp; omega)).trans (a1 x)
  have f1 : ∀ x y, ((w.alloc x).alloc y).frozen? ⟨p, 0, none⟩ = false := fun x y => frz (((Below.heap_alloc (w.alloc x) y p (by simp; omega)).trans (Below.heap_alloc w x p hlp)).trans h.cp) 0
  clear c0 c1 c2 hcp
  obtain ⟨ao1, cp1, e1, _⟩ := id hr'
  subst e1
  generalize hm : (List.map uop R).length = m at *
  clear hm
  go_enter Try.func58, Try.ntmps58
  go_wp2_with fail
  have hT := h.take hr' (by rw [hob]; rfl)
  have hO : Only [p] w (w.setCell ⟨p, 0, none⟩ (.slice ao1 m cp1)) := Only.setCell w (by simp) _
  have hX : (w.setCell ⟨p, 0, none⟩ (.slice ao1 m cp1)).heap.size = w.heap.size := by simp [World.setCell]
  generalize w.setCell ⟨p, 0, none⟩ (.slice ao1 m cp1) = X at *
  have hh : ∀ A C, ((X.alloc A).alloc C).heap[w.heap.size]? = some A := fun A C => by
    rw [← hX]
    exact (Below.heap_alloc (X.alloc A) C X.heap.size (by simp)).trans (heap_alloc_new X A)
  refine bodyPost_ret (results_cell_row rfl _ _ w.heap.size 35 _ (0, 0) _ rfl (hh _ _) Try.underlying35 rfl Try.sizeOp) rfl ?_
  have hA : ∀ A C S, Only S X ((X.alloc A).alloc C) := fun A C S => (Only.alloc S X A).trans (Only.alloc S _ C)
  exact ⟨rfl, ⟨R, ds, _, _, rfl, hT.only (hA _ _ []) (by simp)⟩, hO.trans (hA _ _ _)⟩

theorem loaded {w w1 : World} {p q : Nat} {R : List U} {ds : List St} {rv dv : Value} {B : List Nat} {Z : Obj} (h : It w p q R ds rv dv B) (hb : Below (w.alloc Z).drew.heap.size (w.alloc Z).drew w1) :
    w1.cell? ⟨q, 0, none⟩ = some dv ∧ w1.cell? ⟨p, 0, none⟩ = some rv ∧ w1.frozen? ⟨p, 0, none⟩ = false ∧ w1.frozen? ⟨q, 0, none⟩ = false ∧ ∀ v, (w1.setCell ⟨p, 0, none⟩ v).cell? ⟨q, 0, none⟩ = some dv := by
  have hlp := h.lt p h.pb
  have hlq := h.lt q h.qb
  have hs : (w.alloc Z).drew.heap.size = w.heap.size + 1 := by show (w.alloc Z).heap.size = _; simp
  have hp : w1.heap[p]? = _ := ((hb.block p (by omega)).trans (Below.heap_alloc w Z p hlp)).trans h.cp
  have hq : w1.heap[q]? = _ := ((hb.block q (by omega)).trans (Below.heap_alloc w Z q hlq)).trans h.cq
  exact ⟨cell_of_row _ _ 0 _ _ (0, 0) hq, cell_of_row _ _ 0 _ _ (0, 0) hp, frz hp 0, frz hq 0, fun v => cell_of_row _ _ 0 _ _ (0, 0) (only_heap hq (Only.setCell (S := [p]) w1 (by simp) v) (by simp; exact fun e => h.ne e.symm))⟩

/-- Behind unitsOf and the two stores. -/
def Ld (w wx : World) (p q : Nat) (s : St) (ds : List St) (B : List Nat) : Prop :=
  ∃ rv dv B', It wx p q s.u ds rv dv B' ∧ (∀ g ∈ B', g ∈ B ∨ w.heap.size < g) ∧ wx.heap[w.heap.size]? = some (.cells #[.int .i64 0, .int .i64 0, .string ⟨#[]⟩] 35) ∧ Only [p, q] w wx
theorem ld_of {w w1 : World} {p q : Nat} {s : St} {ds : List St} {rv dv rv' dv' : Value} {B : List Nat} (h : It w p q [] (s :: ds) rv dv B) (hb : Below (w.alloc (.cells #[.int .i64 0, .int .i64 0, .string ⟨#[]⟩] 35)).drew.heap.size (w.alloc (.cells #[.int .i64 0, .int .i64 0, .string ⟨#[]⟩] 35)).drew w1)
    (ho : w1.ownsRow (w.alloc (.cells #[.int .i64 0, .int .i64 0, .string ⟨#[]⟩] 35)).drew.heap.size 35 3 rv' s.u.length (ocs (s.u.map uop))) (hd : RdD w dv' (ds.map St.op)) (hdb : dv'.ownBlock = dv.ownBlock) :
    Ld w ((w1.setCell ⟨p, 0, none⟩ rv').setCell ⟨q, 0, none⟩ dv') p q s ds B := by
  have hlp := h.lt p h.pb
  have hlq := h.lt q h.qb
  have hA : ∀ S, Only S w (w.alloc (.cells #[.int .i64 0, .int .i64 0, .string ⟨#[]⟩] 35)).drew := fun S => (Only.alloc S w _).trans (Only.drew S _)
  have hs : (w.alloc (.cells #[.int .i64 0, .int .i64 0, .string ⟨#[]⟩] 35)).drew.heap.size = w.heap.size + 1 := by show (w.alloc _).heap.size = _; simp
  have hn : (w.alloc (.cells #[.int .i64 0, .int .i64 0, .string ⟨#[]⟩] 35)).drew.heap[w.heap.size]? = some (.cells #[.int .i64 0, .int .i64 0, .string ⟨#[]⟩] 35) := heap_alloc_new w _
  have h' := h.only (hA []) (by simp)
  have hd2 := rdd_only hd (hA []) (by simp)
  obtain ⟨B', hI, hB⟩ := h'.load hb ho hd2 hdb
  have hO2 : Only [p, q] w1 ((w1.setCell ⟨p, 0, none⟩ rv').setCell ⟨q, 0, none⟩ dv') := (Only.setCell _ (by simp) _).trans (Only.setCell _ (by simp) _)
  refine ⟨_, _, B', hI, fun g hg => (hB g hg).imp id (fun e => by omega), ?_, ((hA _).trans (Only.of_below hb)).trans hO2⟩
  exact only_heap ((hb.block _ (by omega)).trans hn) hO2 (by simp; omega)

set_option maxRecDepth 20000 in
set_option maxHeartbeats 1500000 in
theorem next_load {w : World} {p q : Nat} {s : St} {ds : List St} {rv dv : Value} {B : List Nat} (h : It w p q [] (s :: ds) rv dv B) :
    Calls Try.prog 58 #[.pointer (some ⟨p, 0, none⟩), .pointer (some ⟨q, 0, none⟩)] w fun e w' => e = .returned (hdU (s.u ++ uw ds)).val ∧ (∃ B', ItL w' p q (s.u ++ uw ds).tail B' ∧ ∀ g ∈ B', g ∈ B ∨ w.heap.size ≤ g) ∧ Only [p, q] w w' := by
  obtain ⟨ao, cp, rfl, _⟩ := h.r
  obtain ⟨b, o, cp', dv', rfl, hb, c0, c1, c2, hsl, hd', hob⟩ := rdd_tail h.d
  have hlp := h.lt p h.pb
  have hlq := h.lt q h.qb
  have hcp := cell_of_row _ _ 0 _ _ (0, 0) h.cp
  have hcq := cell_of_row _ _ 0 _ _ (0, 0) h.cq
  obtain ⟨Z, hZ⟩ : ∃ Z : Obj, Z = .cells #[.int .i64 0, .int .i64 0, .string ⟨#[]⟩] 35 := ⟨_, rfl⟩
  have a1 : (w.alloc Z).cell? ⟨p, 0, none⟩ = _ := (World.cell?_alloc_past _ _ _ hlp).trans hcp
  have a5 : (w.alloc Z).cell? ⟨q, 0, none⟩ = _ := (World.cell?_alloc_past _ _ _ hlq).trans hcq
  have a2 : (w.alloc Z).cell? ⟨b, o, none⟩ = _ := (World.cell?_alloc_past _ _ _ hb).trans c0
  have a3 : (w.alloc Z).cell? ⟨b, o + 1, none⟩ = _ := (World.cell?_alloc_past _ _ _ hb).trans c1
  have a4 : (w.alloc Z).cell? ⟨b, o + 2, none⟩ = _ := (World.cell?_alloc_past _ _ _ hb).trans c2
  have hU := unitsOf_any s (w.alloc Z).drew (h.ok s (by simp)).1 (h.ok s (by simp)).2
  clear c0 c1 c2 hcp hcq
  obtain ⟨ao1, cp1, e1, _⟩ := id hd'
  subst e1
  generalize hm : (List.map St.op ds).length = m at *
  clear hm
  subst hZ
  go_enter Try.func58, Try.ntmps58
  go_upto_region 2 with fail
  go_cut [17] (fun _ wx => Ld w wx p q s ds B)
  case first =>
    go_region_with (go_at_call 59; refine hU.mono ?_; rintro e w1 ⟨v1, rfl, ho1, hb1⟩; obtain ⟨ao2, cp2, rfl⟩ := own_form ho1; obtain ⟨d1, d2, d3, d4, d5⟩ := loaded h hb1)
    all_goals
      go_wp2_with fail
      go_meet
    all_goals exact ld_of h hb1 ho1 hd' (by rw [hob]; rfl)
  case rest =>
    clear hU a1 a2 a3 a4 a5 hsl hd' hob
    obtain ⟨rv2, dv2, B', hI, hB', hz, hO⟩ := hcut
    have hle : w.heap.size < wc.heap.size := heap_lt hz
    have hok := u_ne (h.ok s (by simp)).1
    have hlt := h.lt
    clear h
    obtain ⟨u0, R0, HS⟩ : ∃ u0 R0, Hid (s.u = u0 :: R0) := by
      cases hsu : s.u with
      | nil => simp [hsu] at hok
      | cons u0 R0 => exact ⟨u0, R0, rfl⟩
    rw [HS.out] at hI
    clear hok
    obtain ⟨b2, o2, cp2, rv', rfl, hb2, c0, c1, c2, hsl, hr', hob⟩ := rdd_tail hI.r
    obtain ⟨ao3, cp3, e3, _⟩ := id hr'
    subst e3
    have hlp2 := hI.lt p hI.pb
    have hnp : w.heap.size ≠ p := by omega
    have hcp := cell_of_row _ _ 0 _ _ (0, 0) hI.cp
    have b1 : ∀ x, (wc.alloc x).cell? ⟨p, 0, none⟩ = _ := fun x => (World.cell?_alloc_past _ _ _ hlp2).trans hcp
    have f1 : ∀ x, (wc.alloc x).frozen? ⟨p, 0, none⟩ = false := fun x => frz ((Below.heap_alloc wc x p hlp2).trans hI.cp) 0
    have f0 := frz hI.cp 0
    have hz1 : ∀ v, (wc.setCell ⟨p, 0, none⟩ v).heap[w.heap.size]? = _ := fun v => only_heap hz (Only.setCell (S := [p]) wc (by simp) v) (by simp; exact hnp)
    have hz2 : ∀ v k, ((wc.setCell ⟨p, 0, none⟩ v).setCell ⟨w.heap.size, 0, none⟩ k).heap[w.heap.size]? = _ := fun v k => heap_setCell (hz1 v) 0 k
    have hz3 : ∀ v k n, (((wc.setCell ⟨p, 0, none⟩ v).setCell ⟨w.heap.size, 0, none⟩ k).setCell ⟨w.heap.size, 1, none⟩ n).heap[w.heap.size]? = _ := fun v k n => heap_setCell (hz2 v k) 1 n
    have hz4 : ∀ v k n t, ((((wc.setCell ⟨p, 0, none⟩ v).setCell ⟨w.heap.size, 0, none⟩ k).setCell ⟨w.heap.size, 1, none⟩ n).setCell ⟨w.heap.size, 2, none⟩ t).heap[w.heap.size]? = _ := fun v k n t => heap_setCell (hz3 v k n) 2 t
    have hal : ∀ (X : World) (x : Obj) (c : Array Value) (t : TypeId), X.heap[w.heap.size]? = some (.cells c t) → (X.alloc x).heap[w.heap.size]? = some (.cells c t) := fun X x c t h => (Below.heap_alloc X x _ (heap_lt h)).trans h
    have f2 : ∀ v x, ((wc.setCell ⟨p, 0, none⟩ v).alloc x).frozen? ⟨w.heap.size, 0, none⟩ = false := fun v x => frz (hal _ x _ _ (hz1 v)) 0
    have f3 : ∀ v k x, (((wc.setCell ⟨p, 0, none⟩ v).setCell ⟨w.heap.size, 0, none⟩ k).alloc x).frozen? ⟨w.heap.size, 1, none⟩ = false := fun v k x => frz (hal _ x _ _ (hz2 v k)) 1
    have f4 : ∀ v k n x, ((((wc.setCell ⟨p, 0, none⟩ v).setCell ⟨w.heap.size, 0, none⟩ k).setCell ⟨w.heap.size, 1, none⟩ n).alloc x).frozen? ⟨w.heap.size, 2, none⟩ = false := fun v k n x => frz (hal _ x _ _ (hz3 v k n)) 2
    have g2 : ∀ v x, ((wc.setCell ⟨p, 0, none⟩ v).alloc x).cell? ⟨w.heap.size, 0, none⟩ = some (.int .i64 0) := fun v x => cell_of_row _ _ 0 _ _ (0, 0) (hal _ x _ _ (hz1 v))
    have g3 : ∀ v k x, (((wc.setCell ⟨p, 0, none⟩ v).setCell ⟨w.heap.size, 0, none⟩ k).alloc x).cell? ⟨w.heap.size, 1, none⟩ = some (.int .i64 0) := fun v k x => cell_of_row _ _ 1 _ _ (0, 0) (hal _ x _ _ (hz2 v k))
    have g4 : ∀ v k n x, ((((wc.setCell ⟨p, 0, none⟩ v).setCell ⟨w.heap.size, 0, none⟩ k).setCell ⟨w.heap.size, 1, none⟩ n).alloc x).cell? ⟨w.heap.size, 2, none⟩ = some (.string ⟨#[]⟩) := fun v k n x => cell_of_row _ _ 2 _ _ (0, 0) (hal _ x _ _ (hz3 v k n))
    have HZ : Hid (∀ v k n t x, (((((wc.setCell ⟨p, 0, none⟩ v).setCell ⟨w.heap.size, 0, none⟩ k).setCell ⟨w.heap.size, 1, none⟩ n).setCell ⟨w.heap.size, 2, none⟩ t).alloc x).heap[w.heap.size]? = some (.cells #[k, n, t] 35)) := fun v k n t x => by
      have := hal _ x _ _ (hz4 v k n t)
      simpa using this
    clear hz1 hz2 hz3 hz4 hal
    generalize hm : (List.map uop R0).length = m0 at *
    clear hm
    go_wp2_with fail
    refine bodyPost_ret (results_cell_row rfl _ _ w.heap.size 35 _ (0, 0) _ rfl (HZ.out _ _ _ _ _) Try.underlying35 rfl Try.sizeOp) rfl ?_
    rw [HS.out]
    have hT := hI.take hr' (by rw [hob]; rfl)
    have hX : ∀ k n t x, Only [w.heap.size] (wc.setCell ⟨p, 0, none⟩ (.slice ao3 m0 cp3)) (((((wc.setCell ⟨p, 0, none⟩ (.slice ao3 m0 cp3)).setCell ⟨w.heap.size, 0, none⟩ k).setCell ⟨w.heap.size, 1, none⟩ n).setCell ⟨w.heap.size, 2, none⟩ t).alloc x) := fun k n t x =>
      (((Only.setCell _ (by simp) _).trans (Only.setCell _ (by simp) _)).trans (Only.setCell _ (by simp) _)).trans (Only.alloc _ _ _)
    have hP : Only [p, q] wc (wc.setCell ⟨p, 0, none⟩ (.slice ao3 m0 cp3)) := Only.setCell wc (by simp) _
    refine ⟨rfl, ⟨B', ⟨R0, ds, _, _, rfl, hT.only (hX _ _ _ _) (fun g hg => ?_)⟩, fun g hg => (hB' g hg).imp id (fun e => by omega)⟩, (hO.trans hP).new (hX _ _ _ _) (fun i hi => .inr (by simp at hi; omega))⟩
    have := hB' g hg
    simp
    rcases this with h1 | h1
    · have := hlt g h1; omega
    · omega

/-- What units gives, called. -/
theorem unit_any {w : World} {p q : Nat} {L : List U} {B : List Nat} (h : ItL w p q L B) :
    Calls Try.prog 58 #[.pointer (some ⟨p, 0, none⟩), .pointer (some ⟨q, 0, none⟩)] w fun e w' => e = .returned (hdU L).val ∧ (∃ B', ItL w' p q L.tail B' ∧ ∀ g ∈ B', g ∈ B ∨ w.heap.size ≤ g) ∧ Only [p, q] w w' := by
  obtain ⟨R, ds, rv, dv, rfl, h⟩ := h
  cases R with
  | cons u R =>
    refine (next_rest h).mono ?_
    rintro e w' ⟨rfl, hI, hO⟩
    exact ⟨rfl, ⟨B, hI, fun g hg => .inl hg⟩, hO.mono (by simp)⟩
  | nil =>
    cases ds with
    | nil =>
      refine (next_none h).mono ?_
      rintro e w' ⟨rfl, hb⟩
      exact ⟨rfl, ⟨B, ⟨[], [], rv, dv, rfl, h.only (Only.of_below (S := []) hb) (by simp)⟩, fun g hg => .inl hg⟩, Only.of_below hb⟩
    | cons s ds =>
      rw [List.nil_append, uw_cons]
      exact next_load h
end Go.Proofs.Ytgabanndjiegdab
