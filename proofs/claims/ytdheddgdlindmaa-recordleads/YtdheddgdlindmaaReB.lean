/-
  record: put, gone.
-/
import Derived.Test.YtdheddgdlindmaaReA
import Derived.BigQuiet
namespace Go.Proofs.Ytdheddgdlindmaa
open Go.Maps Go.ChangeShapes Go.WideShapes Go.ChangeAt Go.RowKit Go.PlainAid

/-- The pairs of B that A does not have; the keys of A that B does not have. -/
def ptD (A B : List PaD) : List PaD := B.filter fun p => !decide (p ∈ A)
def hasK (B : List PaD) (k : ByteArray) : Bool := decide (∃ x ∈ B, x.k = k)
def gnD (A B : List PaD) : List ByteArray := (A.filter fun p => !hasK B p.k).map PaD.k
theorem PlM.below {W W' : World} {b : Nat} {L : List PaD} (h : PlM W b L) (hb : Below W.heap.size W W') : PlM W' b L := by
  obtain ⟨D, h1, h2⟩ := h
  have hg : W.grownBy W' none := ⟨hb.os, hb.tape, hb.output, hb.size, fun i hi _ => hb.block i hi⟩
  exact ⟨D, h1.kept hg (by simp), h2⟩
theorem PlM.look {W : World} {b : Nat} {L : List PaD} (h : PlM W b L) {k : ByteArray} (hk : k.size ≤ maxLen) : ∃ c : Int, (Instr.lookup 106 (.map (some b)) (.string k) true).run Try.prog W = .ok (.tuple #[.int .i64 c, .bool (hasK L k)]) W ∧ ∀ (i : Nat) (x : PaD), L[i]? = some x → x.k = k → c = (i : Int) := by
  obtain ⟨D, h1, h2⟩ := h
  obtain ⟨v, ps, hrun, hv⟩ := h1.look_ok strKeyed Try.underlying106 (Try.zeroIR W) (plainElem_int (H := Unit) Try.underlying3 (Go.WalkArith.wf_i64 ⟨by omega, by omega⟩)) (kS_key hk)
  obtain ⟨c, rfl, hc, -⟩ := plainElem_int_inv Try.underlying3 hv
  refine ⟨c, by rw [hrun, h2.has]; rfl, fun i x hi hx => ?_⟩
  have := h2.at_ i x hi (.lit (.int .i64 0))
  rw [hx] at this
  simp only [Prod.mk.injEq] at hc
  rw [this] at hc
  simpa using hc.1.symm
theorem below_drewR (w : World) (n : Nat) : Below w.heap.size w (w.drewN n) := by
  induction n with
  | zero => exact Below.refl _ _
  | succ n ih => exact Below.drew ih
theorem ownB {W W' : World} {B e z n : Nat} {v : Value} {L : List Value} (h : W.ownsRow B e z v n L) (hg : W.grownBy W' v.ownBlock) {w : World} {C : Nat} (hb : Below C w W) (hC : C ≤ B) (hW : C ≤ W.heap.size) : Below C w W' :=
  hb.grown hg hW (fun j hj => by have := (h.lt j hj).1; omega)
theorem fil_take {α : Type} (p : α → Bool) (l : List α) (k : Nat) (h : k < l.length) : (l.take (k + 1)).filter p = (l.take k).filter p ++ (if p l[k] then [l[k]] else []) := by
  rw [List.take_succ_eq_append_getElem h, List.filter_append]
  congr 1
  simp [List.filter_cons]
theorem keys_one {A : List PaD} (hn : (A.map PaD.k).Nodup) {x y : PaD} (hx : x ∈ A) (hy : y ∈ A) (h : x.k = y.k) : x = y := by
  have h1 : A.Pairwise (fun a b => a.k ≠ b.k) := List.pairwise_map.1 hn
  obtain ⟨i, hi, rfl⟩ := List.mem_iff_getElem.1 hx
  obtain ⟨j, hj, rfl⟩ := List.mem_iff_getElem.1 hy
  rcases Nat.lt_trichotomy i j with hl | rfl | hl
  · exact absurd h (List.pairwise_iff_getElem.1 h1 i j hi hj hl)
  · rfl
  · exact absurd h.symm (List.pairwise_iff_getElem.1 h1 j i hj hi hl)
set_option maxRecDepth 20000 in
set_option maxHeartbeats 3000000 in
theorem put_any (va vb : Value) (A B : List PaD) (w : World) (hA : RdPa w va A) (hB : RdPa w vb B) (hn : (A.map PaD.k).Nodup) (hkA : ∀ x ∈ A, x.k.size ≤ maxLen) (hkB : ∀ x ∈ B, x.k.size ≤ maxLen) (hl : A.length ≤ 1000000) (hl2 : B.length ≤ 1000000) :
    Calls Try.prog 35 #[va, vb] w fun e w' => ∃ u, e = .returned u ∧ w'.ownsRow w.heap.size 44 2 u (ptD A B).length (pcs (ptD A B)) ∧ Below w.heap.size w w' := by
  obtain ⟨i0, hin, hz0, hz1, hz2⟩ := info_parts Try.infoPa
  have cM := places_any va A w hA hn hkA hl
  obtain ⟨ao, ac, rfl, hac⟩ := hA
  obtain ⟨bo, bc, rfl, hbc⟩ := hB
  obtain ⟨R, HR⟩ : ∃ R, Hid (ptD A B = R) := ⟨_, rfl⟩
  rw [HR.out]
  go_enter Try.func35, Try.ntmps35
  go_wp2_with fail
  refine cM.mono ?_
  rintro e w1 ⟨b, rfl, hM, hb, hb1⟩
  clear cM
  go_wp2_with fail
  go_loopw [5, 15] (fun lv i wr => ∃ (k : Nat) (P : List PaD), k ≤ B.length ∧ i = .int .i64 (k : Int) ∧ Hid (P = (B.take k).filter fun p => !decide (p ∈ A)) ∧ P.length ≤ k ∧ wr.ownsRow w1.heap.size 44 2 lv P.length (pcs P) ∧ Below w1.heap.size w1 wr) (fun _ i _ => B.length - (Go.RowKit.intOf i).toNat)
  case atStart => exact ⟨0, [], by omega, rfl, by show _ = _; simp, by simp, World.ownsRow_nil _ _ _ _, Below.refl _ _⟩
  case round =>
    obtain ⟨k, P, hkl, rfl, HP, hPl, ho, hbl⟩ := hrel
    obtain ⟨al, kl, rfl⟩ := own_form ho
    have hbw := hb1.trans (hbl.mono hb1.size)
    by_cases hlt : k < B.length
    · have hlt' : (k : Int) < (B.length : Int) := by omega
      obtain ⟨g, off, rfl, hg, c0, c1⟩ := hbc k B[k] (by simp [hlt])
      rw [← hbw.cell (p := ⟨g, _, none⟩) hg] at c0 c1
      have hks := hkB B[k] (List.getElem_mem hlt)
      have HF := fil_take (fun p => !decide (p ∈ A)) B k hlt
      rw [← HP.out] at HF
      generalize B[k] = x at *
      have hal := alloc_bR wr (.cells #[.string x.k, .string x.v] 44)
      have hnew := heap_alloc_new wr (.cells #[.string x.k, .string x.v] 44)
      obtain ⟨c, hrun, hat⟩ := ((hM.below hbl).below hal).look hks
      have hq : ∀ W, Below (wr.alloc (.cells #[.string x.k, .string x.v] 44)).heap.size (wr.alloc (.cells #[.string x.k, .string x.v] 44)) W → W.cell? ⟨wr.heap.size, 0, none⟩ = some (.string x.k) ∧ W.cell? ⟨wr.heap.size, 1, none⟩ = some (.string x.v) := fun W h => by
        have q := fun j => cell_of_row W wr.heap.size j _ _ (0, 0) ((h.block _ (heap_lt hnew)).trans hnew)
        exact ⟨q 0, q 1⟩
      obtain ⟨n0, n1⟩ := hq _ (Below.refl _ _)
      have hbl1 := hbl.trans (hal.mono hbl.size)
      have ho1 := own_belowG ho hal
      have hbw1 := hbw.trans (hal.mono hbw.size)
      have happ : ∀ W : World, Below (wr.alloc (.cells #[.string x.k, .string x.v] 44)).heap.size (wr.alloc (.cells #[.string x.k, .string x.v] 44)) W → (W.alloc (.cells #[.string x.k, .string x.v] 44)).ownsRow w1.heap.size 44 2 (.slice al P.length kl) P.length (pcs P) ∧ Below w1.heap.size w1 (W.alloc (.cells #[.string x.k, .string x.v] 44)) ∧ w1.heap.size ≤ (W.alloc (.cells #[.string x.k, .string x.v] 44)).heap.size := fun W h => by
        have hh := hbl1.trans (h.mono hbl1.size)
        have ha := alloc_bR W (.cells #[.string x.k, .string x.v] 44)
        exact ⟨own_belowG (own_belowG ho1 h) ha, hh.trans (ha.mono hh.size), (hh.trans (ha.mono hh.size)).size⟩
      clear hbc ho hnew
      by_cases hmem : x ∈ A
      · obtain ⟨i, hi, hxi⟩ := List.mem_iff_getElem.1 hmem
        have hc : c = (i : Int) := hat i x (by rw [← hxi]; simp [hi]) rfl
        subst hc
        have hhk : hasK A x.k = true := decide_eq_true ⟨x, hmem, rfl⟩
        rw [hhk] at hrun
        obtain ⟨ga, oa, rfl, hga, d0, d1⟩ := hac i x (by rw [← hxi]; simp [hi])
        rw [← hbw1.cell (p := ⟨ga, _, none⟩) hga] at d0 d1
        have hi' : (i : Int) < (A.length : Int) := by omega
        have HF2 : Hid (P = (B.take (k + 1)).filter fun p => !decide (p ∈ A)) := by show _ = _; rw [HF]; simp [hmem]
        clear hac hat HF HP hmem happ hxi
        go_upto_region 7 with fail
        go_quiet (fail)
        have ho2 := own_belowG ho1 (below_drewR _ nq)
        have hbl2 := hbl1.trans ((below_drewR _ nq).mono hbl1.size)
        generalize (wr.alloc (.cells #[.string x.k, .string x.v] 44)).drewN nq = W at *
        go_wp2_with fail
        exact ⟨⟨k + 1, P, by omega, by go_num, HF2, by omega, ho2, hbl2⟩, by simp [Go.RowKit.intOf]; omega⟩
      · have HF2 : Hid (P ++ [x] = (B.take (k + 1)).filter fun p => !decide (p ∈ A)) := by show _ = _; rw [HF]; simp [hmem]
        cases hhk : hasK A x.k with
        | false =>
          rw [hhk] at hrun
          clear hac hat HF HP hmem
          go_upto_region 7 with fail
          go_quiet (fail)
          obtain ⟨m0, m1⟩ := hq _ (below_drewR _ nq)
          obtain ⟨hoE, hbE, hsE⟩ := happ _ (below_drewR _ nq)
          generalize (wr.alloc (.cells #[.string x.k, .string x.v] 44)).drewN nq = W at *
          clear n0 n1 c0 c1
          go_wp2_with (at_builtin; refine wpList_append_own _ rfl (.tmp 36) (.tmp 38) 28 rfl w1.heap.size 44 i0 (.agg #[.string ⟨#[]⟩, .string ⟨#[]⟩]) 2 32 Try.underlying28 hin hz0 hz1 hz2 rfl (by decide) _ P.length _ rfl hoE ⟨_, 0, none⟩ 1 1 [.string x.k, .string x.v] rfl rfl (many_new _ _ _) (two_str _ _) (by unfold maxLen; omega) (by omega) hsE ?_; intro v6 w6 ho6 hg6 _)
          have ho7 : w6.ownsRow w1.heap.size 44 2 v6 (P ++ [x]).length (pcs (P ++ [x])) := by
            rw [List.length_append, pcs_app]
            exact ho6
          exact ⟨⟨k + 1, P ++ [x], by omega, by go_num, HF2, by simp; omega, ho7, ownB hoE hg6 hbE (Nat.le_refl _) hsE⟩, by simp [Go.RowKit.intOf]; omega⟩
        | true =>
          rw [hhk] at hrun
          obtain ⟨y, hy, hyk⟩ := of_decide_eq_true hhk
          obtain ⟨i, hi, hxi⟩ := List.mem_iff_getElem.1 hy
          have hc : c = (i : Int) := hat i y (by rw [← hxi]; simp [hi]) hyk
          subst hc
          obtain ⟨ga, oa, rfl, hga, d0, d1⟩ := hac i y (by rw [← hxi]; simp [hi])
          rw [← hbw1.cell (p := ⟨ga, _, none⟩) hga] at d0 d1
          have hi' : (i : Int) < (A.length : Int) := by omega
          have hv : ¬ y.v.toList = x.v.toList := str_neR (fun e => hmem (by
            have : y = x := by cases y; cases x; simp_all
            rwa [← this]))
          rw [hyk] at d0
          clear hac hat HF HP hmem hxi hy hyk
          go_upto_region 7 with fail
          go_quiet (fail)
          obtain ⟨m0, m1⟩ := hq _ (below_drewR _ nq)
          obtain ⟨hoE, hbE, hsE⟩ := happ _ (below_drewR _ nq)
          generalize (wr.alloc (.cells #[.string x.k, .string x.v] 44)).drewN nq = W at *
          clear n0 n1 c0 c1
          go_wp2_with (at_builtin; refine wpList_append_own _ rfl (.tmp 36) (.tmp 38) 28 rfl w1.heap.size 44 i0 (.agg #[.string ⟨#[]⟩, .string ⟨#[]⟩]) 2 32 Try.underlying28 hin hz0 hz1 hz2 rfl (by decide) _ P.length _ rfl hoE ⟨_, 0, none⟩ 1 1 [.string x.k, .string x.v] rfl rfl (many_new _ _ _) (two_str _ _) (by unfold maxLen; omega) (by omega) hsE ?_; intro v6 w6 ho6 hg6 _)
          have ho7 : w6.ownsRow w1.heap.size 44 2 v6 (P ++ [x]).length (pcs (P ++ [x])) := by
            rw [List.length_append, pcs_app]
            exact ho6
          exact ⟨⟨k + 1, P ++ [x], by omega, by go_num, HF2, by simp; omega, ho7, ownB hoE hg6 hbE (Nat.le_refl _) hsE⟩, by simp [Go.RowKit.intOf]; omega⟩
    · have hlt' : ¬ (k : Int) < (B.length : Int) := by omega
      have e : P = R := by rw [HP.out, List.take_of_length_le (by omega), ← HR.out]; rfl
      subst e
      clear hbc hac HP HR
      go_wp2_with fail
      go_ret
      exact ⟨_, rfl, own_lower ho hb1.size, hbw⟩
end Go.Proofs.Ytdheddgdlindmaa
