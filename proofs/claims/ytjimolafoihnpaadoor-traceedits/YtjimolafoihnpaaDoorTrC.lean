/-
  The program's pointsOf.
-/
import Derived.Test.YtjimolafoihnpaaDoorTrB
import Derived.Deep.RegionLaw
import Derived.Deep.AppendLies
namespace Go.Proofs.YtjimolafoihnpaaDoor.tc
open Go.Maps Go.ChangeShapes Go.WideShapes Go.ChangeAt Go.RowKit Go.PlainAid

/-- The code points that a run gives. -/
def pq (r : RunD) : List Int := if fOk r = true then pts r.t else []
theorem atR_pq (r : RunD) : atR r = atG r.c r.q r.f (pq r) := by
  unfold atR pq
  split
  · rfl
  · rfl
theorem pts_size (t : ByteArray) : (pts t).length ≤ t.size := by
  unfold pts
  rw [ptL_length]
  have := (cpl_le t).2
  omega
set_option maxRecDepth 20000 in
set_option maxHeartbeats 1000000 in
theorem pointsOf_any (r : RunD) (w : World) (hs : r.t.size ≤ 1048576) :
    Calls Tryd.prog 50 #[.agg #[.int .i64 r.c, .int .i64 r.q, .int .i64 r.f, .string r.t]] w fun e w' => ∃ v, e = .returned v ∧ w'.ownsRow w.heap.size 3 1 v (pq r).length (iv (pq r)) ∧ Below w.heap.size w w' := by
  have hal := alloc_b w (.cells #[.int .i64 r.c, .int .i64 r.q, .int .i64 r.f, .string r.t] 44)
  by_cases h0 : r.f < 0
  · have HP : Hid (pq r = []) := by
      show _ = _
      rw [pq, if_neg (by simp [fOk]; omega)]
    have hd : decide (r.f < 0) = true := decide_eq_true h0
    go_enter Tryd.func50, Tryd.ntmps50
    go_wp2_with fail
    go_ret
    exact ⟨_, rfl, by rw [HP.out]; exact World.ownsRow_nil _ _ _ _, hal⟩
  · have hd : decide (r.f < 0) = false := decide_eq_false h0
    by_cases h1 : 1000000 < r.f
    · have HP : Hid (pq r = []) := by
        show _ = _
        rw [pq, if_neg (by simp [fOk]; omega)]
      have hd1 : decide (1000000 < r.f) = true := decide_eq_true h1
      go_enter Tryd.func50, Tryd.ntmps50
      go_wp2_with fail
      go_ret
      exact ⟨_, rfl, by rw [HP.out]; exact World.ownsRow_nil _ _ _ _, hal⟩
    · have hd1 : decide (1000000 < r.f) = false := decide_eq_false h1
      have HP : Hid (pq r = pts r.t) := by
        show _ = _
        rw [pq, if_pos (by simp [fOk]; omega)]
      rcases valid_or_bad r.t with ⟨n, hv⟩ | ⟨k, hb⟩
      · have e1 := cpl_ok hv
        have HE : Hid (pts r.t = ptL r.t n) := by show _ = _; rw [pts, e1, Int.toNat_natCast]
        have HL : Hid ((ptL r.t n).length = n) := ptL_length _ _
        have c1 := points_ok r.t n (w.alloc (.cells #[.int .i64 r.c, .int .i64 r.q, .int .i64 r.f, .string r.t] 44)) (by omega) hv
        clear e1 hv
        go_enter Tryd.func50, Tryd.ntmps50
        go_wp2_with fail
        refine c1.mono ?_
        rintro e w2 ⟨v, rfl, ho, hb2⟩
        obtain ⟨ao, cp, rfl⟩ := own_form ho
        clear c1
        go_wp2_with fail
        go_ret
        refine ⟨_, rfl, ?_, chain hal hb2⟩
        rw [HP.out, HE.out, HL.out]
        exact own_mono ho (by simp)
      · have e1 := cpl_bad hb
        have HE : Hid (pts r.t = []) := by show _ = _; rw [pts, e1]; rfl
        have c1 := points_bad r.t k (w.alloc (.cells #[.int .i64 r.c, .int .i64 r.q, .int .i64 r.f, .string r.t] 44)) (by unfold maxLen; omega) hb
        clear e1 hb
        go_enter Tryd.func50, Tryd.ntmps50
        go_wp2_with fail
        refine c1.mono ?_
        rintro e w2 ⟨rfl, rfl⟩
        clear c1
        go_wp2_with fail
        go_ret
        exact ⟨_, rfl, by rw [HP.out, HE.out]; exact World.ownsRow_nil _ _ _ _, hal⟩
end Go.Proofs.YtjimolafoihnpaaDoor.tc

/-
  The program's read: a book of documents.
-/
namespace Go.Proofs.YtjimolafoihnpaaDoor.tc
open Go.Maps Go.ChangeShapes Go.WideShapes Go.ChangeAt Go.RowKit Go.PlainAid

/-- Documents in the world. -/
def RdL (w : World) (v : Value) (L : List (List RunD)) : Prop :=
  ∃ (ao : Option Addr) (cp : Nat), v = .slice ao L.length cp ∧ L.length ≤ cp ∧ ∀ i l, L[i]? = some l → ∃ b off u, ao = some ⟨b, off, none⟩ ∧ b < w.heap.size ∧ w.cell? ⟨b, off + i, none⟩ = some u ∧ RdN w u l
theorem RdL.below {w w' : World} {v : Value} {L : List (List RunD)} (h : RdL w v L) (hb : Below w.heap.size w w') : RdL w' v L := by
  obtain ⟨ao, cp, e, hc, h⟩ := h
  refine ⟨ao, cp, e, hc, fun i r hr => ?_⟩
  obtain ⟨b, off, u, e1, h1, c0, c1⟩ := h i r hr
  exact ⟨b, off, u, e1, Nat.lt_of_lt_of_le h1 hb.size, (hb.cell (p := ⟨b, off + i, none⟩) h1).trans c0, c1.below hb⟩
/-- A book's box. -/
def BB (W : World) (b : Nat) (dv nv : Value) : Prop := W.heap[b]? = some (.cells #[dv, nv] 65)
theorem BB.cells {W : World} {b : Nat} {dv nv : Value} (h : BB W b dv nv) : W.cell? ⟨b, 0, none⟩ = some dv ∧ W.cell? ⟨b, 1, none⟩ = some nv ∧ W.frozen? ⟨b, 0, none⟩ = false ∧ W.frozen? ⟨b, 1, none⟩ = false := by
  have c := fun j => cell_of_row W b j _ _ (0, 0) h
  exact ⟨c 0, c 1, frz h 0, frz h 1⟩
theorem BB.below {W W' : World} {b : Nat} {dv nv : Value} (h : BB W b dv nv) (hb : Below W.heap.size W W') : BB W' b dv nv := (hb.block b (lt_heap h)).trans h
/-- A book on its way. -/
structure Bk (W : World) (B b m : Nat) (N : List AtK) (dv nv : Value) (R : List Value) (X : List (List (Nat × Int))) : Prop where
  box : BB W b dv nv
  docs : Tbl W B 114 2 cA 112 dv R X
  names : W.ownsRow B 111 3 nv N.length (N.map cN).flatten
  kn : Kn W m N
  hb : B ≤ b
  hm : B ≤ m
theorem Bk.below {W W' : World} {B b m : Nat} {N : List AtK} {dv nv : Value} {R : List Value} {X : List (List (Nat × Int))} (h : Bk W B b m N dv nv R X) (hb : Below W.heap.size W W') : Bk W' B b m N dv nv R X :=
  ⟨h.box.below hb, h.docs.below hb, own_below h.names hb, h.kn.grown (gb_below (o := none) hb) (by simp), h.hb, h.hm⟩
theorem neBk : 114 ≠ 112 ∧ 111 ≠ 112 ∧ 111 ≠ 114 ∧ 65 ≠ 114 ∧ 65 ≠ 112 ∧ 65 ≠ 111 := ⟨by decide, by decide, by decide, by decide, by decide, by decide⟩
/-- A box stays where a row is written. -/
theorem BB.own {W W' : World} {b : Nat} {dv nv : Value} {B e z n : Nat} {v : Value} {xs : List Value} (h : BB W b dv nv) (ho : W.ownsRow B e z v n xs) (hg : W.grownBy W' v.ownBlock) (hne : e ≠ 65) : BB W' b dv nv := (Sm.own ho hg hne) b _ h
theorem Kn.own {W W' : World} {m : Nat} {N : List AtK} {B e z n : Nat} {v : Value} {xs : List Value} (h : Kn W m N) (ho : W.ownsRow B e z v n xs) (hg : W.grownBy W' v.ownBlock) : Kn W' m N :=
  h.grown hg (fun q => by
    obtain ⟨cur, h1⟩ := own_kind ho q
    obtain ⟨es, clock, h2⟩ := h.obj
    rw [h1] at h2
    cases h2)
theorem Kn.box {W W' : World} {m p : Nat} {N : List AtK} {c : Array Value} {t : TypeId} (h : Kn W m N) (hx : W.heap[p]? = some (.cells c t)) (hg : W.grownBy W' (some p)) : Kn W' m N :=
  h.grown hg (fun q => by
    injection q with q
    subst q
    obtain ⟨es, clock, h2⟩ := h.obj
    rw [hx] at h2
    cases h2)
/-- The map has a name more. -/
theorem Bk.map {W W' : World} {B b m : Nat} {N : List AtK} {dv nv : Value} {R : List Value} {X : List (List (Nat × Int))} (h : Bk W B b m N dv nv R X) (hg : W.grownBy W' (some m)) : (∀ t, Sm t W W') ∧ BB W' b dv nv ∧ Tbl W' B 114 2 cA 112 dv R X ∧ W'.ownsRow B 111 3 nv N.length (N.map cN).flatten := by
  obtain ⟨es, clock, h2⟩ := h.kn.obj
  have s : ∀ t, Sm t W W' := fun t => Sm.grown hg (fun g cur e q => by
    injection e with e
    subst e
    rw [h2] at q
    cases q)
  exact ⟨s, s _ b _ h.box, h.docs.sm (s _) (s _), own_sm h.names (s _)⟩
/-- The names have it too. -/
theorem Bk.name {W W' : World} {B b m : Nat} {N : List AtK} {k : AtK} {dv nv nv' : Value} {R : List Value} {X : List (List (Nat × Int))} (h1 : BB W b dv nv) (h2 : Tbl W B 114 2 cA 112 dv R X) (h3 : W.ownsRow B 111 3 nv N.length (N.map cN).flatten) (h4 : Kn W m (N ++ [k])) (hb : B ≤ b) (hm : B ≤ m)
    (ho : W'.ownsRow B 111 3 nv' (N.length + 1) ((N.map cN).flatten ++ cN k)) (hg : W.grownBy W' nv.ownBlock) : Bk (W'.setCell ⟨b, 1, none⟩ nv') B b m (N ++ [k]) dv nv' R X := by
  have s1 : Sm 114 W W' := Sm.own h3 hg neBk.2.2.1
  have s2 : Sm 112 W W' := Sm.own h3 hg neBk.2.1
  have b1 := h1.own h3 hg neBk.2.2.2.2.2.symm
  have g2 := gb_set W' b 1 nv'
  have t1 : ∀ t, 65 ≠ t → Sm t W' (W'.setCell ⟨b, 1, none⟩ nv') := fun t ht => Sm.set b1 ht 1 nv'
  refine ⟨?_, (h2.sm s2 s1).sm (t1 _ neBk.2.2.2.2.1) (t1 _ neBk.2.2.2.1), ?_, (h4.own h3 hg).box b1 g2, hb, hm⟩
  · have := hp_set b1 1 nv'
    exact this
  · rw [List.length_append, flat_app]
    exact own_sm ho (t1 _ neBk.2.2.2.2.2)
/-- A document has an atom more. -/
theorem Bk.atom {W W' : World} {B b m p n cp : Nat} {N : List AtK} {nv : Value} {R : List Value} {X : List (List (Nat × Int))} {i : Nat} {r r' : Value} {xs : List (Nat × Int)} {a : Nat × Int} {g k : Nat} (h : Bk W B b m N (.slice (some ⟨p, 0, none⟩) n cp) nv R X) (hr : R[i]? = some r) (hx : X[i]? = some xs)
    (hv : r' = .slice (some ⟨g, 0, none⟩) (xs.length + 1) k) (ho : W'.ownsRow B 114 2 r' (xs.length + 1) ((xs.map cA).flatten ++ cA a)) (hg : W.grownBy W' r.ownBlock) (hl : r.ownBlock = some g ∨ g = W.heap.size) :
    Bk (W'.setCell ⟨p, i, none⟩ r') B b m N (.slice (some ⟨p, 0, none⟩) n cp) nv (R.set i r') (X.set i (xs ++ [a])) := by
  have hro := h.docs.row i r xs hr hx
  have t2 := own_sm h.docs.top (Sm.own hro hg neBk.1)
  obtain ⟨cu, hcu⟩ := own_kind t2 (g := p) rfl
  have b1 := h.box.own hro hg neBk.2.2.2.1.symm
  have t1 : ∀ t, 112 ≠ t → Sm t W' (W'.setCell ⟨p, i, none⟩ r') := fun t ht => Sm.set hcu ht i r'
  exact ⟨t1 _ neBk.2.2.2.2.1.symm b _ b1, h.docs.app neBk.1 hr hx hv ho hg hl, own_sm (own_sm h.names (Sm.own hro hg neBk.2.2.1.symm)) (t1 _ neBk.2.1.symm), (h.kn.own hro hg).box hcu (gb_set W' p i r'), h.hb, h.hm⟩
theorem infoAt : (Tryd.prog.info? 114).map (fun i => (i.zero, i.size, i.bytes)) = some (some (.agg #[.int .i64 0, .int .i64 0]), 2, 16) := by kernel_rfl
theorem infoNm : (Tryd.prog.info? 111).map (fun i => (i.zero, i.size, i.bytes)) = some (some (.agg #[.int .i64 0, .int .i64 0, .int .i64 0]), 3, 24) := by kernel_rfl
theorem infoRw : (Tryd.prog.info? 112).map (fun i => (i.zero, i.size, i.bytes)) = some (some (.slice none 0 0), 1, 24) := by kernel_rfl
end Go.Proofs.YtjimolafoihnpaaDoor.tc
