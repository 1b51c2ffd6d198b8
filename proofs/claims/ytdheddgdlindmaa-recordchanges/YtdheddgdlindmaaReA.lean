/-
  record: where in a row of pairs each key stands.
-/
import Derived.Test.YtdheddgdlindmaaRcO
import Derived.Maps.Own
import Derived.Maps.OwnSet
import Derived.Maps.Views
import Derived.WalkArith
import Derived.BigQuiet
import Derived.Test.YtdheddgdlindmaaRcZ
namespace Go.Proofs.Ytdheddgdlindmaa
open Go.Maps Go.ChangeShapes Go.WideShapes Go.ChangeAt Go.RowKit Go.PlainAid

theorem strKeyed : Keyed Try.prog 9 := string_keyed Try.underlying9
def kS (k : ByteArray) : Lit := .string k.data.toList
theorem kS_inj {a b : ByteArray} (h : kS a = kS b) : a = b := by
  unfold kS at h
  simp only [Lit.string.injEq] at h
  exact ByteArray.ext (Array.toList_inj.1 h)
theorem kS_key {k : ByteArray} (h : k.size ≤ maxLen) : keyOf Try.prog 9 (.string k) = some (kS k) := WideMaps.keyOf_string_mk Try.underlying9 h
theorem kS_lit (k : ByteArray) : WideAt.IsKeyLit (kS k) := trivial
theorem Try.zeroIR (u : World) : (zeroValue 3).run Try.prog u = .ok (.int .i64 0) u := by kernel_rfl
/-- The map in block b tells where each key of L stands. -/
structure PlD (D : DataW Unit) (L : List PaD) : Prop where
  m : IsMap D
  has : ∀ k : ByteArray, has D (kS k) = decide (∃ x ∈ L, x.k = k)
  at_ : ∀ (i : Nat) (x : PaD), L[i]? = some x → ∀ z, D.atKey (kS x.k) z = .lit (.int .i64 (i : Int))
def PlM (w : World) (b : Nat) (L : List PaD) : Prop := ∃ D : DataW Unit, w.ownsMap Try.prog 9 (plainElem (H := Unit) Try.prog 3) b L.length D ∧ PlD D L
theorem pld_nil : PlD (.map []) [] := ⟨⟨_, rfl⟩, fun k => by simp [Maps.has], fun i x h => by simp at h⟩
theorem pld_put {D : DataW Unit} {L : List PaD} {x : PaD} (h : PlD D L) (hn : ∀ y ∈ L, y.k ≠ x.k) : PlD (D.put (kS x.k) (.lit (.int .i64 (L.length : Int)))) (L ++ [x]) := by
  refine ⟨h.m.put _ _, fun k => ?_, fun i y hi z => ?_⟩
  · by_cases hk : x.k = k
    · subst hk
      rw [has_put_same h.m (kS_lit _)]
      simp
    · rw [has_put_other (fun e => hk (kS_inj e).symm), h.has]
      simp [hk]
  · by_cases hl : i < L.length
    · rw [List.getElem?_append_left hl] at hi
      have hy := List.mem_of_getElem? hi
      rw [atKey_put_other (fun e => hn y hy (kS_inj e)), h.at_ i y hi]
    · obtain ⟨rfl, rfl⟩ := last_one hl hi
      rw [atKey_put_same h.m (kS_lit _)]
theorem make_hint (n : Int) (w : World) : (Instr.makeMap 106 (some (.int .i64 n))).run Try.prog w = .ok (.map (some w.heap.size)) (w.alloc (.map #[] 0)) := by
  simp [Instr.makeMap, run_underlying Try.underlying106, asInt, asIntOf, Result.andThen]
set_option maxRecDepth 20000 in
set_option maxHeartbeats 2000000 in
theorem places_any (v : Value) (L : List PaD) (w : World) (hr : RdPa w v L) (hn : (L.map PaD.k).Nodup) (hk : ∀ x ∈ L, x.k.size ≤ maxLen) (hl : L.length ≤ 1000000) :
    Calls Try.prog 67 #[v] w fun e w' => ∃ b, e = .returned (.map (some b)) ∧ PlM w' b L ∧ w.heap.size ≤ b ∧ Below w.heap.size w w' := by
  obtain ⟨ao, cp, rfl, hcs⟩ := hr
  have hmm := make_hint (L.length : Int) w
  have h0 : PlM (w.alloc (.map #[] 0)) w.heap.size [] := ⟨_, World.ownsMap_made w _ _ _, pld_nil⟩
  have hb0 := alloc_bR w (.map #[] 0)
  go_enter Try.func67, Try.ntmps67
  go_wp2_with fail
  clear hmm
  go_loopw [11] (fun i wr => ∃ k : Nat, k ≤ L.length ∧ i = .int .i64 (k : Int) ∧ PlM wr w.heap.size (L.take k) ∧ Below w.heap.size w wr ∧ w.heap.size < wr.heap.size) (fun i _ => L.length - (Go.RowKit.intOf i).toNat)
  case atStart => exact ⟨0, by omega, rfl, h0, hb0, by simp⟩
  case round =>
    clear h0 hb0
    obtain ⟨k, hkl, rfl, hM, hbl, hsz⟩ := hrel
    by_cases hlt : k < L.length
    · have hlt' : (k : Int) < (L.length : Int) := by omega
      obtain ⟨g, off, rfl, hg, c0, c1⟩ := hcs k L[k] (by simp [hlt])
      rw [← hbl.cell (p := ⟨g, _, none⟩) hg] at c0 c1
      have hks := hk L[k] (List.getElem_mem hlt)
      obtain ⟨D, hown, hD⟩ := hM
      have hnk : ∀ y ∈ L.take k, y.k ≠ L[k].k := by
        intro y hy e
        have h1 : L.Pairwise (fun a b => a.k ≠ b.k) := List.pairwise_map.1 hn
        obtain ⟨j, hj, rfl⟩ := List.mem_iff_getElem.1 hy
        rw [List.length_take] at hj
        rw [List.getElem_take] at e
        exact List.pairwise_iff_getElem.1 h1 j k (by omega) hlt (by omega) e
      have hD2 := pld_put hD hnk
      have hln : (L.take k).length = k := by rw [List.length_take]; omega
      rw [hln] at hD2
      rw [← List.take_succ_eq_append_getElem hlt] at hD2
      have HT : Hid ((L.take (k + 1)).length = k + 1) := by show _ = _; rw [List.length_take]; omega
      have hown1 : (wr.alloc (.cells #[.string L[k].k, .string L[k].v] 44)).ownsMap Try.prog 9 (plainElem (H := Unit) Try.prog 3) w.heap.size (L.take k).length D := hown.alloc _
      have hkey := kS_key hks
      have hnew := heap_alloc_new wr (.cells #[.string L[k].k, .string L[k].v] 44)
      have n0 : (wr.alloc (.cells #[.string L[k].k, .string L[k].v] 44)).cell? ⟨wr.heap.size, 0, none⟩ = some (.string L[k].k) := cell_of_row _ _ 0 _ _ (0, 0) hnew
      have hal := alloc_bR wr (.cells #[.string L[k].k, .string L[k].v] 44)
      have hB1 := hbl.trans (hal.mono hbl.size)
      have hval : plainElem (H := Unit) Try.prog 3 (.int .i64 (k : Int)) = some (.lit (.int .i64 (k : Int)), []) := plainElem_int Try.underlying3 (Go.WalkArith.wf_i64 ⟨by omega, by omega⟩)
      obtain ⟨w3, hup, hown3, hg3⟩ := hown1.update strKeyed Try.underlying106 (by rw [hln]; unfold maxLen; omega) hkey hval
      have hB3 : Below w.heap.size w w3 := hB1.grown hg3 (by have := hal.size; omega) (fun j hj => by cases hj; omega)
      have hs3 := hg3.size
      rw [hln] at hown3
      clear hn hnew hD hown hown1 hnk hcs hval
      generalize L[k] = x at *
      go_wp2_with fail
      refine ⟨⟨k + 1, by omega, by go_num, ⟨_, ?_, hD2⟩, hB3, by have := hal.size; omega⟩, by simp [Go.RowKit.intOf]; omega⟩
      rw [HT.out]
      exact hown3
    · have hlt' : ¬ (k : Int) < (L.length : Int) := by omega
      rw [List.take_of_length_le (by omega)] at hM
      clear hcs
      go_wp2_with fail
      go_ret
      exact ⟨_, rfl, hM, Nat.le_refl _, hbl⟩
end Go.Proofs.Ytdheddgdlindmaa

/-
  record: put, gone.
-/
namespace Go.Proofs.Ytdheddgdlindmaa
open Go.Maps Go.ChangeShapes Go.WideShapes Go.ChangeAt Go.RowKit Go.PlainAid

/-- The pairs of B that A does not have; the keys of A that B does not have. -/
def ptD (A B : List PaD) : List PaD := B.filter fun p => !decide (p ∈ A)
def hasK (B : List PaD) (k : ByteArray) : Bool := decide (∃ x ∈ B, x.k = k)
def gnD (A B : List PaD) : List ByteArray := (A.filter fun p => !hasK B p.k).map PaD.k
theorem PlM.below {W W' : World} {b : Nat} {L : List PaD} (h : PlM W b L) (hb : Below W.heap.size W W') : PlM W' b L := by
  obtain ⟨D, h1, h2⟩ := h
  have hg : W.grownBy W' none := ⟨hb.os, hb.tape, hb.output, hb.size, fun i hi _ => hb.block i hi⟩
  exact ⟨D, h1.kept hg (by simp), h2⟩
theorem PlM.look {W : World} {b : Nat} {L : List PaD} (h : PlM W b L) {k : ByteArray} (hk : k.size ≤ maxLen) : ∃ c : Int, (Instr.lookup 106 (.map (some b)) (.string k) true).run Try.prog W = .ok (.tuple #[.int .i64 c, .bool (hasK L k)]) W ∧ ∀ (i : Nat) (x : PaD), L[i]? = some x → x.k = k → c = (i : Int) := by
  obtain ⟨D, h1, h2⟩ := h
  obtain ⟨v, ps, hrun, hv⟩ := h1.look_ok strKeyed Try.underlying106 (Try.zeroIR W) (plainElem_int (H := Unit) Try.underlying3 (Go.WalkArith.wf_i64 ⟨by omega, by omega⟩)) (kS_key hk)
  obtain ⟨c, rfl, hc, -⟩ := plainElem_int_inv Try.underlying3 hv
  refine ⟨c, by rw [hrun, h2.has]; rfl, fun i x hi hx => ?_⟩
  have := h2.at_ i x hi (.lit (.int .i64 0))
  rw [hx] at this
  simp only [Prod.mk.injEq] at hc
  rw [this] at hc
  simpa using hc.1.symm
theorem below_drewR (w : World) (n : Nat) : Below w.heap.size w (w.drewN n) := by
  induction n with
  | zero => exact Below.refl _ _
  | succ n ih => exact Below.drew ih
theorem ownB {W W' : World} {B e z n : Nat} {v : Value} {L : List Value} (h : W.ownsRow B e z v n L) (hg : W.grownBy W' v.ownBlock) {w : World} {C : Nat} (hb : Below C w W) (hC : C ≤ B) (hW : C ≤ W.heap.size) : Below C w W' :=
  hb.grown hg hW (fun j hj => by have := (h.lt j hj).1; omega)
theorem fil_take {α : Type} (p : α → Bool) (l : List α) (k : Nat) (h : k < l.length) : (l.take (k + 1)).filter p = (l.take k).filter p ++ (if p l[k] then [l[k]] else []) := by
  rw [List.take_succ_eq_append_getElem h, List.filter_append]
  congr 1
  simp [List.filter_cons]
theorem keys_one {A : List PaD} (hn : (A.map PaD.k).Nodup) {x y : PaD} (hx : x ∈ A) (hy : y ∈ A) (h : x.k = y.k) : x = y := by
  have h1 : A.Pairwise (fun a b => a.k ≠ b.k) := List.pairwise_map.1 hn
  obtain ⟨i, hi, rfl⟩ := List.mem_iff_getElem.1 hx
  obtain ⟨j, hj, rfl⟩ := List.mem_iff_getElem.1 hy
  rcases Nat.lt_trichotomy i j with hl | rfl | hl
  · exact absurd h (List.pairwise_iff_getElem.1 h1 i j hi hj hl)
  · rfl
  · exact absurd h.symm (List.pairwise_iff_getElem.1 h1 j i hj hi hl)
set_option maxRecDepth 20000 in
set_option maxHeartbeats 3000000 in
theorem put_any (va vb : Value) (A B : List PaD) (w : World) (hA : RdPa w va A) (hB : RdPa w vb B) (hn : (A.map PaD.k).Nodup) (hkA : ∀ x ∈ A, x.k.size ≤ maxLen) (hkB : ∀ x ∈ B, x.k.size ≤ maxLen) (hl : A.length ≤ 1000000) (hl2 : B.length ≤ 1000000) :
    Calls Try.prog 35 #[va, vb] w fun e w' => ∃ u, e = .returned u ∧ w'.ownsRow w.heap.size 44 2 u (ptD A B).length (pcs (ptD A B)) ∧ Below w.heap.size w w' := by
  obtain ⟨i0, hin, hz0, hz1, hz2⟩ := info_parts Try.infoPa
  have cM := places_any va A w hA hn hkA hl
  obtain ⟨ao, ac, rfl, hac⟩ := hA
  obtain ⟨bo, bc, rfl, hbc⟩ := hB
  obtain ⟨R, HR⟩ : ∃ R, Hid (ptD A B = R) := ⟨_, rfl⟩
  rw [HR.out]
  go_enter Try.func35, Try.ntmps35
  go_wp2_with fail
  refine cM.mono ?_
  rintro e w1 ⟨b, rfl, hM, hb, hb1⟩
  clear cM
  go_wp2_with fail
  go_loopw [5, 15] (fun lv i wr => ∃ (k : Nat) (P : List PaD), k ≤ B.length ∧ i = .int .i64 (k : Int) ∧ Hid (P = (B.take k).filter fun p => !decide (p ∈ A)) ∧ P.length ≤ k ∧ wr.ownsRow w1.heap.size 44 2 lv P.length (pcs P) ∧ Below w1.heap.size w1 wr) (fun _ i _ => B.length - (Go.RowKit.intOf i).toNat)
  case atStart => exact ⟨0, [], by omega, rfl, by show _ = _; simp, by simp, World.ownsRow_nil _ _ _ _, Below.refl _ _⟩
  case round =>
    obtain ⟨k, P, hkl, rfl, HP, hPl, ho, hbl⟩ := hrel
    obtain ⟨al, kl, rfl⟩ := own_form ho
    have hbw := hb1.trans (hbl.mono hb1.size)
    by_cases hlt : k < B.length
    · have hlt' : (k : Int) < (B.length : Int) := by omega
      obtain ⟨g, off, rfl, hg, c0, c1⟩ := hbc k B[k] (by simp [hlt])
      rw [← hbw.cell (p := ⟨g, _, none⟩) hg] at c0 c1
      have hks := hkB B[k] (List.getElem_mem hlt)
      have HF := fil_take (fun p => !decide (p ∈ A)) B k hlt
      rw [← HP.out] at HF
      generalize B[k] = x at *
      have hal := alloc_bR wr (.cells #[.string x.k, .string x.v] 44)
      have hnew := heap_alloc_new wr (.cells #[.string x.k, .string x.v] 44)
      obtain ⟨c, hrun, hat⟩ := ((hM.below hbl).below hal).look hks
      have hq : ∀ W, Below (wr.alloc (.cells #[.string x.k, .string x.v] 44)).heap.size (wr.alloc (.cells #[.string x.k, .string x.v] 44)) W → W.cell? ⟨wr.heap.size, 0, none⟩ = some (.string x.k) ∧ W.cell? ⟨wr.heap.size, 1, none⟩ = some (.string x.v) := fun W h => by
        have q := fun j => cell_of_row W wr.heap.size j _ _ (0, 0) ((h.block _ (heap_lt hnew)).trans hnew)
        exact ⟨q 0, q 1⟩
      obtain ⟨n0, n1⟩ := hq _ (Below.refl _ _)
      have hbl1 := hbl.trans (hal.mono hbl.size)
      have ho1 := own_belowG ho hal
      have hbw1 := hbw.trans (hal.mono hbw.size)
      have happ : ∀ W : World, Below (wr.alloc (.cells #[.string x.k, .string x.v] 44)).heap.size (wr.alloc (.cells #[.string x.k, .string x.v] 44)) W → (W.alloc (.cells #[.string x.k, .string x.v] 44)).ownsRow w1.heap.size 44 2 (.slice al P.length kl) P.length (pcs P) ∧ Below w1.heap.size w1 (W.alloc (.cells #[.string x.k, .string x.v] 44)) ∧ w1.heap.size ≤ (W.alloc (.cells #[.string x.k, .string x.v] 44)).heap.size := fun W h => by
        have hh := hbl1.trans (h.mono hbl1.size)
        have ha := alloc_bR W (.cells #[.string x.k, .string x.v] 44)
        exact ⟨own_belowG (own_belowG ho1 h) ha, hh.trans (ha.mono hh.size), (hh.trans (ha.mono hh.size)).size⟩
      clear hbc ho hnew
      by_cases hmem : x ∈ A
      · obtain ⟨i, hi, hxi⟩ := List.mem_iff_getElem.1 hmem
        have hc : c = (i : Int) := hat i x (by rw [← hxi]; simp [hi]) rfl
        subst hc
        have hhk : hasK A x.k = true := decide_eq_true ⟨x, hmem, rfl⟩
        rw [hhk] at hrun
        obtain ⟨ga, oa, rfl, hga, d0, d1⟩ := hac i x (by rw [← hxi]; simp [hi])
        rw [← hbw1.cell (p := ⟨ga, _, none⟩) hga] at d0 d1
        have hi' : (i : Int) < (A.length : Int) := by omega
        have HF2 : Hid (P = (B.take (k + 1)).filter fun p => !decide (p ∈ A)) := by show _ = _; rw [HF]; simp [hmem]
        clear hac hat HF HP hmem happ hxi
        go_upto_region 7 with fail
        go_quiet (fail)
        have ho2 := own_belowG ho1 (below_drewR _ nq)
        have hbl2 := hbl1.trans ((below_drewR _ nq).mono hbl1.size)
        generalize (wr.alloc (.cells #[.string x.k, .string x.v] 44)).drewN nq = W at *
        go_wp2_with fail
        exact ⟨⟨k + 1, P, by omega, by go_num, HF2, by omega, ho2, hbl2⟩, by simp [Go.RowKit.intOf]; omega⟩
      · have HF2 : Hid (P ++ [x] = (B.take (k + 1)).filter fun p => !decide (p ∈ A)) := by show _ = _; rw [HF]; simp [hmem]
        cases hhk : hasK A x.k with
        | false =>
          rw [hhk] at hrun
          clear hac hat HF HP hmem
          go_upto_region 7 with fail
          go_quiet (fail)
          obtain ⟨m0, m1⟩ := hq _ (below_drewR _ nq)
          obtain ⟨hoE, hbE, hsE⟩ := happ _ (below_drewR _ nq)
          generalize (wr.alloc (.cells #[.string x.k, .string x.v] 44)).drewN nq = W at *
          clear n0 n1 c0 c1
          go_wp2_with (at_builtin; refine wpList_append_own _ rfl (.tmp 36) (.tmp 38) 28 rfl w1.heap.size 44 i0 (.agg #[.string ⟨#[]⟩, .string ⟨#[]⟩]) 2 32 Try.underlying28 hin hz0 hz1 hz2 rfl (by decide) _ P.length _ rfl hoE ⟨_, 0, none⟩ 1 1 [.string x.k, .string x.v] rfl rfl (many_new _ _ _) (two_str _ _) (by unfold maxLen; omega) (by omega) hsE ?_; intro v6 w6 ho6 hg6 _)
          have ho7 : w6.ownsRow w1.heap.size 44 2 v6 (P ++ [x]).length (pcs (P ++ [x])) := by
            rw [List.length_append, pcs_app]
            exact ho6
          exact ⟨⟨k + 1, P ++ [x], by omega, by go_num, HF2, by simp; omega, ho7, ownB hoE hg6 hbE (Nat.le_refl _) hsE⟩, by simp [Go.RowKit.intOf]; omega⟩
        | true =>
          rw [hhk] at hrun
          obtain ⟨y, hy, hyk⟩ := of_decide_eq_true hhk
          obtain ⟨i, hi, hxi⟩ := List.mem_iff_getElem.1 hy
          have hc : c = (i : Int) := hat i y (by rw [← hxi]; simp [hi]) hyk
          subst hc
          obtain ⟨ga, oa, rfl, hga, d0, d1⟩ := hac i y (by rw [← hxi]; simp [hi])
          rw [← hbw1.cell (p := ⟨ga, _, none⟩) hga] at d0 d1
          have hi' : (i : Int) < (A.length : Int) := by omega
          have hv : ¬ y.v.toList = x.v.toList := str_neR (fun e => hmem (by
            have : y = x := by cases y; cases x; simp_all
            rwa [← this]))
          rw [hyk] at d0
          clear hac hat HF HP hmem hxi hy hyk
          go_upto_region 7 with fail
          go_quiet (fail)
          obtain ⟨m0, m1⟩ := hq _ (below_drewR _ nq)
          obtain ⟨hoE, hbE, hsE⟩ := happ _ (below_drewR _ nq)
          generalize (wr.alloc (.cells #[.string x.k, .string x.v] 44)).drewN nq = W at *
          clear n0 n1 c0 c1
          go_wp2_with (at_builtin; refine wpList_append_own _ rfl (.tmp 36) (.tmp 38) 28 rfl w1.heap.size 44 i0 (.agg #[.string ⟨#[]⟩, .string ⟨#[]⟩]) 2 32 Try.underlying28 hin hz0 hz1 hz2 rfl (by decide) _ P.length _ rfl hoE ⟨_, 0, none⟩ 1 1 [.string x.k, .string x.v] rfl rfl (many_new _ _ _) (two_str _ _) (by unfold maxLen; omega) (by omega) hsE ?_; intro v6 w6 ho6 hg6 _)
          have ho7 : w6.ownsRow w1.heap.size 44 2 v6 (P ++ [x]).length (pcs (P ++ [x])) := by
            rw [List.length_append, pcs_app]
            exact ho6
          exact ⟨⟨k + 1, P ++ [x], by omega, by go_num, HF2, by simp; omega, ho7, ownB hoE hg6 hbE (Nat.le_refl _) hsE⟩, by simp [Go.RowKit.intOf]; omega⟩
    · have hlt' : ¬ (k : Int) < (B.length : Int) := by omega
      have e : P = R := by rw [HP.out, List.take_of_length_le (by omega), ← HR.out]; rfl
      subst e
      clear hbc hac HP HR
      go_wp2_with fail
      go_ret
      exact ⟨_, rfl, own_lower ho hb1.size, hbw⟩
end Go.Proofs.Ytdheddgdlindmaa

/-
  record: gone; Changes.
-/
namespace Go.Proofs.Ytdheddgdlindmaa
open Go.Maps Go.ChangeShapes Go.WideShapes Go.ChangeAt Go.RowKit Go.PlainAid

theorem Try.infoSR : (Try.prog.info? 9).map (fun i => (i.zero, i.size, i.bytes)) = some (some (.string ⟨#[]⟩), 1, 16) := by kernel_rfl
def svs (l : List ByteArray) : List Value := l.map Value.string
theorem one_str (s : ByteArray) : ∀ u ∈ [Value.string s], u.oneCell' = true := by
  intro u hu
  simp at hu
  subst hu
  rfl
set_option maxRecDepth 20000 in
set_option maxHeartbeats 3000000 in
theorem gone_any (va vb : Value) (A B : List PaD) (w : World) (hA : RdPa w va A) (hB : RdPa w vb B) (hn : (B.map PaD.k).Nodup) (hkA : ∀ x ∈ A, x.k.size ≤ maxLen) (hkB : ∀ x ∈ B, x.k.size ≤ maxLen) (hl : A.length ≤ 1000000) (hl2 : B.length ≤ 1000000) :
    Calls Try.prog 36 #[va, vb] w fun e w' => ∃ u, e = .returned u ∧ w'.ownsRow w.heap.size 9 1 u (gnD A B).length (svs (gnD A B)) ∧ Below w.heap.size w w' := by
  obtain ⟨i0, hin, hz0, hz1, hz2⟩ := info_parts Try.infoSR
  have cM := places_any vb B w hB hn hkB hl2
  obtain ⟨ao, ac, rfl, hac⟩ := hA
  obtain ⟨bo, bc, rfl, -⟩ := hB
  obtain ⟨R, HR⟩ : ∃ R, Hid (gnD A B = R) := ⟨_, rfl⟩
  rw [HR.out]
  go_enter Try.func36, Try.ntmps36
  go_wp2_with fail
  refine cM.mono ?_
  rintro e w1 ⟨b, rfl, hM, hb, hb1⟩
  clear cM
  go_wp2_with fail
  go_loopw [5, 15] (fun lv i wr => ∃ (k : Nat) (P : List ByteArray), k ≤ A.length ∧ i = .int .i64 (k : Int) ∧ Hid (P = ((A.take k).filter fun p => !hasK B p.k).map PaD.k) ∧ P.length ≤ k ∧ wr.ownsRow w1.heap.size 9 1 lv P.length (svs P) ∧ Below w1.heap.size w1 wr) (fun _ i _ => A.length - (Go.RowKit.intOf i).toNat)
  case atStart => exact ⟨0, [], by omega, rfl, by show _ = _; simp, by simp, World.ownsRow_nil _ _ _ _, Below.refl _ _⟩
  case round =>
    obtain ⟨k, P, hkl, rfl, HP, hPl, ho, hbl⟩ := hrel
    obtain ⟨al, kl, rfl⟩ := own_form ho
    have hbw := hb1.trans (hbl.mono hb1.size)
    by_cases hlt : k < A.length
    · have hlt' : (k : Int) < (A.length : Int) := by omega
      obtain ⟨g, off, rfl, hg, c0, c1⟩ := hac k A[k] (by simp [hlt])
      rw [← hbw.cell (p := ⟨g, _, none⟩) hg] at c0 c1
      have hks := hkA A[k] (List.getElem_mem hlt)
      have HF := congrArg (List.map PaD.k) (fil_take (fun p => !hasK B p.k) A k hlt)
      rw [List.map_append, ← HP.out] at HF
      generalize A[k] = x at *
      have hal := alloc_bR wr (.cells #[.string x.k, .string x.v] 44)
      have hnew := heap_alloc_new wr (.cells #[.string x.k, .string x.v] 44)
      obtain ⟨c, hrun, -⟩ := ((hM.below hbl).below hal).look hks
      have n0 : (wr.alloc (.cells #[.string x.k, .string x.v] 44)).cell? ⟨wr.heap.size, 0, none⟩ = some (.string x.k) := cell_of_row _ _ 0 _ _ (0, 0) hnew
      have hbl1 := hbl.trans (hal.mono hbl.size)
      have ho1 := own_belowG ho hal
      clear hac ho hnew
      cases hhk : hasK B x.k with
      | true =>
        rw [hhk] at hrun
        have HF2 : Hid (P = ((A.take (k + 1)).filter fun p => !hasK B p.k).map PaD.k) := by show _ = _; rw [HF]; simp [hhk]
        clear HF HP
        go_wp2_with fail
        exact ⟨⟨k + 1, P, by omega, by go_num, HF2, by omega, ho1, hbl1⟩, by simp [Go.RowKit.intOf]; omega⟩
      | false =>
        rw [hhk] at hrun
        have HF2 : Hid (P ++ [x.k] = ((A.take (k + 1)).filter fun p => !hasK B p.k).map PaD.k) := by show _ = _; rw [HF]; simp [hhk]
        have ha := alloc_bR (wr.alloc (.cells #[.string x.k, .string x.v] 44)) (.cells #[.string x.k] 9)
        have hoE := own_belowG ho1 ha
        have hbE := hbl1.trans (ha.mono hbl1.size)
        have hsE := hbE.size
        clear HF HP
        go_wp2_with (at_builtin; refine wpList_append_own _ rfl (.tmp 28) (.tmp 31) 39 rfl w1.heap.size 9 i0 (.string ⟨#[]⟩) 1 16 Try.underlying39 hin hz0 hz1 hz2 rfl (by decide) _ P.length _ rfl hoE ⟨_, 0, none⟩ 1 1 [.string x.k] rfl rfl (many_new2 _ _ _ _) (one_str _) (by unfold maxLen; omega) (by omega) hsE ?_; intro v6 w6 ho6 hg6 _)
        have ho7 : w6.ownsRow w1.heap.size 9 1 v6 (P ++ [x.k]).length (svs (P ++ [x.k])) := by
          unfold svs
          rw [List.length_append, List.map_append]
          exact ho6
        exact ⟨⟨k + 1, P ++ [x.k], by omega, by go_num, HF2, by simp; omega, ho7, ownB hoE hg6 hbE (Nat.le_refl _) hsE⟩, by simp [Go.RowKit.intOf]; omega⟩
    · have hlt' : ¬ (k : Int) < (A.length : Int) := by omega
      have e : P = R := by rw [HP.out, List.take_of_length_le (by omega), ← HR.out]; rfl
      subst e
      clear hac HP HR
      go_wp2_with fail
      go_ret
      exact ⟨_, rfl, own_lower ho hb1.size, hbw⟩
/-- What Changes gives. -/
def chE (F T : StD) : List PaD × List ByteArray × Int := if stF F = true ∧ stF T = true then (ptD (prD F) (prD T), gnD (prD F) (prD T), 0) else ([], [], 150)
theorem prD_len {S : StD} (h : stF S = true) : (prD S).length ≤ 1000 := by
  have hk := st_ok h
  have h1 := hk.cl
  have h2 := hk.bl
  have h3 := hk.ul
  simp only [prD, List.length_append, List.length_map, List.length_cons, List.length_nil]
  omega
theorem prD_key {S : StD} : ∀ x ∈ prD S, x.k.size ≤ maxLen := by
  intro x hx
  unfold prD at hx
  simp only [List.mem_append, List.mem_map, List.mem_singleton] at hx
  rcases hx with ((⟨y, hy, rfl⟩ | ⟨y, hy, rfl⟩) | rfl) | ⟨y, hy, rfl⟩
  · unfold brP; rw [mk_size]; unfold maxLen; simp
  · unfold coP; rw [mk_size]; unfold maxLen; simp
  · unfold nxP; rw [mk_size]; unfold maxLen; simp
  · unfold cuP; rw [mk_size]; unfold maxLen; simp
set_option maxRecDepth 20000 in
set_option maxHeartbeats 3000000 in
theorem changes_any (F T : StD) (f1 f2 f3 t1 t2 t3 : Value) (w : World) (hf : RdSt w f1 f2 f3 F) (ht : RdSt w t1 t2 t3 T) (hFf : F.Fit) (hFt : T.Fit) :
    Calls Try.prog 16 #[.agg (F.fs f1 f2 f3), .agg (T.fs t1 t2 t3)] w fun e w' => ∃ u v, e = .returned (.tuple #[u, v, .int .i64 (chE F T).2.2]) ∧ w'.ownsRow w.heap.size 44 2 u (chE F T).1.length (pcs (chE F T).1) ∧ w'.ownsRow w.heap.size 9 1 v (chE F T).2.1.length (svs (chE F T).2.1) ∧ Below w.heap.size w w' := by
  have b1 := alloc_bR w (.cells (F.fs f1 f2 f3) 26)
  have b2 := alloc_bR (w.alloc (.cells (F.fs f1 f2 f3) 26)) (.cells (T.fs t1 t2 t3) 26)
  have k1 := (sb_new w F f1 f2 f3).below b2
  have k2 := sb_new (w.alloc (.cells (F.fs f1 f2 f3) 26)) T t1 t2 t3
  rw [World.size_alloc] at k2
  have hB0 := b1.trans (b2.mono b1.size)
  have hf' := hf.below hB0
  have ht' := ht.below hB0
  obtain ⟨a1, c1, e1, -⟩ := hf.c
  subst e1
  obtain ⟨a2, c2, e2, -⟩ := hf.b
  subst e2
  obtain ⟨a3, c3, e3, -⟩ := hf.u
  subst e3
  obtain ⟨d1, g1, e1, -⟩ := ht.c
  subst e1
  obtain ⟨d2, g2, e2, -⟩ := ht.b
  subst e2
  obtain ⟨d3, g3, e3, -⟩ := ht.u
  subst e3
  generalize hw2 : (w.alloc (.cells (F.fs (.slice a1 F.cs.length c1) (.slice a2 F.bs.length c2) (.slice a3 F.us.length c3)) 26)).alloc (.cells (T.fs (.slice d1 T.cs.length g1) (.slice d2 T.bs.length g2) (.slice d3 T.us.length g3)) 26) = w2 at *
  have cP := pairs_any F _ _ _ w2 hf' hFf
  have cQ := fun W (h : Below w2.heap.size w2 W) => pairs_any T _ _ _ W (ht'.below h) hFt
  obtain ⟨R, HR⟩ : ∃ R, Hid (chE F T = R) := ⟨_, rfl⟩
  rw [HR.out]
  obtain ⟨x0, x1, x2, x3, x4⟩ := cellsSB k1
  clear b1 b2 hf ht hf' ht'
  simp only [StD.fs] at cP cQ hw2 ⊢
  cases hF : stF F with
  | false =>
    have e : R = ([], [], 150) := by rw [← HR.out, chE, if_neg (by rw [hF]; simp)]
    subst e
    rw [prE, if_neg (by rw [hF]; decide)] at cP
    clear HR cQ
    go_enter Try.func16, Try.ntmps16
    go_wp2_with fail
    refine cP.mono ?_
    rintro e w3 ⟨dv, rfl, ho, hb3⟩
    obtain ⟨a9, k9, rfl⟩ := own_form ho
    go_wp2_with fail
    go_ret3
    exact ⟨_, _, rfl, World.ownsRow_nil _ _ _ _, World.ownsRow_nil _ _ _ _, hB0.trans (hb3.mono hB0.size)⟩
  | true =>
    rw [prE, if_pos hF] at cP
    have hlF := prD_len hF
    have hnF := rise_keys (pr_rise hF)
    have hkF := prD_key (S := F)
    cases hT : stF T with
    | false =>
      have e : R = ([], [], 150) := by rw [← HR.out, chE, if_neg (by rw [hT]; simp)]
      subst e
      rw [prE, if_neg (by rw [hT]; decide)] at cQ
      clear HR hlF hnF hkF
      generalize prD F = A at *
      go_enter Try.func16, Try.ntmps16
      go_wp2_with fail
      refine cP.mono ?_
      rintro e w3 ⟨dv, rfl, ho, hb3⟩
      obtain ⟨a9, k9, rfl⟩ := own_form ho
      have cQ' := cQ w3 hb3
      clear x0 x1 x2 x3 x4 cP cQ
      obtain ⟨y0, y1, y2, y3, y4⟩ := cellsSB (k2.below hb3)
      go_wp2_with fail
      refine cQ'.mono ?_
      rintro e w4 ⟨dv4, rfl, ho4, hb4⟩
      obtain ⟨a8, k8, rfl⟩ := own_form ho4
      go_wp2_with fail
      go_ret3
      exact ⟨_, _, rfl, World.ownsRow_nil _ _ _ _, World.ownsRow_nil _ _ _ _, (hB0.trans (hb3.mono hB0.size)).trans (hb4.mono (Nat.le_trans hB0.size hb3.size))⟩
    | true =>
      have e : R = (ptD (prD F) (prD T), gnD (prD F) (prD T), 0) := by rw [← HR.out, chE, if_pos ⟨hF, hT⟩]
      subst e
      rw [prE, if_pos hT] at cQ
      have hlT := prD_len hT
      have hnT := rise_keys (pr_rise hT)
      have hkT := prD_key (S := T)
      clear HR
      generalize prD F = A at *
      generalize prD T = B at *
      go_enter Try.func16, Try.ntmps16
      go_wp2_with fail
      refine cP.mono ?_
      rintro e w3 ⟨dv, rfl, ho, hb3⟩
      obtain ⟨a9, k9, rfl⟩ := own_form ho
      have cQ' := cQ w3 hb3
      clear x0 x1 x2 x3 x4 cP cQ
      obtain ⟨y0, y1, y2, y3, y4⟩ := cellsSB (k2.below hb3)
      go_wp2_with fail
      refine cQ'.mono ?_
      rintro e w4 ⟨dv4, rfl, ho4, hb4⟩
      obtain ⟨a8, k8, rfl⟩ := own_form ho4
      have cU := put_any _ _ A B w4 ((rdpa_own ho).below hb4) (rdpa_own ho4) hnF hkF hkT (by omega) (by omega)
      clear y0 y1 y2 y3 y4 cQ'
      go_wp2_with fail
      refine cU.mono ?_
      rintro e w5 ⟨u5, rfl, ho5, hb5⟩
      obtain ⟨a5, k5, rfl⟩ := own_form ho5
      have hb45 := hb4.trans (hb5.mono hb4.size)
      have cV := gone_any _ _ A B w5 ((rdpa_own ho).below hb45) ((rdpa_own ho4).below hb5) hnT hkF hkT (by omega) (by omega)
      clear cU
      go_wp2_with fail
      refine cV.mono ?_
      rintro e w6 ⟨u6, rfl, ho6, hb6⟩
      obtain ⟨a6, k6, rfl⟩ := own_form ho6
      go_wp2_with fail
      have hB3 := hB0.trans (hb3.mono hB0.size)
      have hB4 := hB3.trans (hb4.mono hB3.size)
      have hB5 := hB4.trans (hb5.mono hB4.size)
      go_ret3
      exact ⟨_, _, rfl, own_lower (own_belowG ho5 hb6) hB4.size, own_lower ho6 hB5.size, hB5.trans (hb6.mono hB5.size)⟩
end Go.Proofs.Ytdheddgdlindmaa
