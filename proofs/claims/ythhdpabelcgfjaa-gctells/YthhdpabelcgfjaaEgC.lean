/-
  The contract of numbers.
-/
import Derived.Test.YthhdpabelcgfjaaEgB
import Derived.WalkMore
import Derived.Deep.LoopGhost
namespace Go.Proofs.Ythhdpabelcgfjaa.dg
open Go.Maps Go.WideShapes Go.RowKit Go.ChangeShapes Go.ChangeAt Go.PlainAid

theorem one_rdi (W : World) (x : Int) : RdI (W.alloc (.cells #[.int .i64 x] 3)) (.slice (some ⟨W.heap.size, 0, none⟩) 1 1) [x] :=
  ⟨_, 1, rfl, fun i o h => by
    have hi : i = 0 := by have := (List.getElem?_eq_some_iff.1 h).1; simpa using this
    subst hi
    simp at h
    subst h
    exact ⟨W.heap.size, 0, rfl, by simp, by simp⟩⟩

/-- A link's box. -/
def Box (W : World) (p : Nat) (n : Int) (pv : Value) : Prop := W.heap[p]? = some (.cells #[.int .i64 n, pv] 42 (0, 0))
theorem Box.new (W : World) (n : Int) (pv : Value) : Box (W.alloc (.cells #[.int .i64 n, pv] 42)) W.heap.size n pv := heap_alloc_new W _
theorem Box.below {W W' : World} {p : Nat} {n : Int} {pv : Value} (h : Box W p n pv) (hb : Below W.heap.size W W') : Box W' p n pv := (hb.block p (heap_lt h)).trans h
theorem Box.c0 {W : World} {p : Nat} {n : Int} {pv : Value} (h : Box W p n pv) : W.cell? ⟨p, 0, none⟩ = some (.int .i64 n) := cell_of_row _ _ 0 _ _ (0, 0) h
theorem Box.c1 {W : World} {p : Nat} {n : Int} {pv : Value} (h : Box W p n pv) : W.cell? ⟨p, 1, none⟩ = some pv := cell_of_row _ _ 1 _ _ (0, 0) h
theorem Box.only {W W' : World} {p g : Nat} {n : Int} {pv : Value} {f : Nat → Bool} (h : Box W p n pv) (hs : IsSet W g f) (ho : Only [g] W W') : Box W' p n pv :=
  only_heap h ho (by simp; exact map_ne hs h.c0)

/-- What numbers has on its way. -/
structure NM (w W : World) (b : Nat) (P : List Lk) : Prop where
  good : Good P
  set : IsSet W b (numS P)
  bel : Below w.heap.size w W
  new : w.heap.size ≤ b
theorem NM.below {w W W' : World} {b : Nat} {P : List Lk} (h : NM w W b P) (hb : Below W.heap.size W W') : NM w W' b P := ⟨h.good, h.set.below hb, chain h.bel hb, h.new⟩

theorem not_good {L : List Lk} {k : Nat} (h : k < L.length) (hf : ¬ Fits (L.take k) L[k]) : ¬ Good L := fun hg => hf (hg k h)

set_option maxRecDepth 20000 in
set_option maxHeartbeats 4000000 in
theorem numbers_any {w : World} {v : Value} {L : List Lk} (hv : RdL w v L) (hl : L.length ≤ maxLen) (hok : ∀ k ∈ L, k.Ok) :
    Calls Try.prog 29 #[v] w fun e w' => ((Good L ∧ e = .returned (.tuple #[.map (some w.heap.size), .int .i64 0]) ∧ IsSet w' w.heap.size (numS L)) ∨ (¬ Good L ∧ e = .returned (.tuple #[.map none, .int .i64 130]))) ∧ Below w.heap.size w w' := by
  have hrd : ∀ W, Below w.heap.size w W → RdL W v L := fun W ho => hv.below ho
  obtain ⟨ao, cp, rfl, _⟩ := id hv
  clear hv
  have hmm := @run_makeMap Try.prog
  have h0 : NM w (w.alloc (.map #[] 0)) w.heap.size (L.take 0) := by
    refine ⟨by rw [List.take_zero]; exact good_nil, ?_, (Below.refl _ _).alloc (Nat.le_refl _) _, Nat.le_refl _⟩
    have := World.ownsMap_made (H := Unit) w Try.prog 3 unitElem
    rw [← SD_none] at this
    exact (tightS this).congr (fun i _ => by simp [numS, nums])
  unfold maxLen at hl
  go_enter Try.func29, Try.ntmps29
  go_wp2_with fail
  go_step3
  go_wp2_with fail
  go_step3
  go_wp2_with fail
  clear hmm
  go_loopw [5, 13] (fun la i wr => ∃ k : Nat, k ≤ L.length ∧ la = .int .i64 (lastN (L.take k)) ∧ i = .int .i64 (k : Int) ∧ NM w wr w.heap.size (L.take k)) (fun _ i _ => L.length - (Go.RowKit.intOf i).toNat)
  case atStart => exact ⟨0, Nat.zero_le _, rfl, rfl, h0⟩
  case round =>
    obtain ⟨k, hk, rfl, rfl, hN⟩ := hrel
    clear h0
    have hgb := good_bd hN.good
    have hsz : Hid (Maps.size (SD (numS (L.take k))) = k) := by show _ = _; rw [size_good hN.good, List.length_take]; omega
    by_cases c : k < L.length
    · have c' : (k : Int) < (L.length : Int) := by omega
      obtain ⟨_, _, e1, _, hcs⟩ := hrd wr hN.bel
      obtain ⟨g, off, pv, e2, hg, c0, c1, hps⟩ := hcs k L[k] (by simp [c])
      simp at e1
      obtain ⟨rfl, rfl⟩ := e1
      subst e2
      clear hcs hrd
      have HNG : Hid (¬ Fits (L.take k) L[k] → ¬ Good L) := not_good c
      have HT : Hid (L.take (k + 1) = L.take k ++ [L[k]] ∧ (Fits (L.take k) L[k] → Good (L.take (k + 1)))) := ⟨List.take_succ_eq_append_getElem c, good_snoc hN.good c⟩
      have hkO := hok L[k] (by simp)
      clear hok
      generalize L[k] = lk at *
      have hn0 := hkO.n0
      have hn1 := hkO.n1
      have hpl := hkO.pl
      have hpb := hkO.pb
      clear hkO
      obtain ⟨pao, pcp, rfl, _⟩ := id hps
      obtain ⟨hb1, hb2, hb3, hb4⟩ := hgb
      have hX := Box.new wr lk.num (.slice pao lk.ps.length pcp)
      have hN1 := hN.below ((Below.refl wr.heap.size wr).alloc (Nat.le_refl _) (.cells #[.int .i64 lk.num, .slice pao lk.ps.length pcp] 42))
      have hps1 := hps.below ((Below.refl wr.heap.size wr).alloc (Nat.le_refl _) (.cells #[.int .i64 lk.num, .slice pao lk.ps.length pcp] 42))
      clear hps
      have HF : Hid (∀ x ∈ nums (L.take k), 1 ≤ x ∧ x ≤ 300) := hb1
      have hown1 : (wr.alloc (.cells #[.int .i64 lk.num, .slice pao lk.ps.length pcp] 42)).ownsMap Try.prog 3 unitElem w.heap.size 512 (SD (numS (L.take k))) := hN1.set
      have x0 := hX.c0
      have x1 := hX.c1
      unfold maxLen at hpl
      have hpl' : (lk.ps.length : Int) ≤ 9223372036854775807 := by omega
      by_cases h1 : lk.num ≤ lastN (L.take k)
      · have hbad : Hid (¬ Good L) := HNG.out (fun hf => by have := hf.lo; omega)
        clear hb1 hb3 HNG HT hN hps1
        go_wp2_with (at_len; refine wpList_len_own _ rfl _ 68 rfl 3 56 Try.underlying68 _ w.heap.size 512 _ rfl hown1 ?_; rw [hsz.out])
        (try rw [Exit.noGoto_ret])
        go_ret2
        exact ⟨.inr ⟨hbad.out, rfl⟩, hN1.bel⟩
      · by_cases h2 : 300 < lk.num
        · have hbad : Hid (¬ Good L) := HNG.out (fun hf => by have := hf.hi; omega)
          clear hb1 hb3 HNG HT hN hps1
          go_wp2_with (at_len; refine wpList_len_own _ rfl _ 68 rfl 3 56 Try.underlying68 _ w.heap.size 512 _ rfl hown1 ?_; rw [hsz.out])
          (try rw [Exit.noGoto_ret])
          go_ret2
          exact ⟨.inr ⟨hbad.out, rfl⟩, hN1.bel⟩
        · by_cases h3 : (2 : Int) < (lk.ps.length : Int)
          · have hbad : Hid (¬ Good L) := HNG.out (fun hf => by have := hf.two; omega)
            clear hb1 hb3 HNG HT hN hps1
            go_wp2_with (at_len; refine wpList_len_own _ rfl _ 68 rfl 3 56 Try.underlying68 _ w.heap.size 512 _ rfl hown1 ?_; rw [hsz.out])
            (try rw [Exit.noGoto_ret])
            go_ret2
            exact ⟨.inr ⟨hbad.out, rfl⟩, hN1.bel⟩
          · clear hb1 hb3 hN hown1
            go_wp2_with fail
            obtain ⟨w5, rfl⟩ : ∃ x, x = wr := ⟨_, rfl⟩
            go_loopw [35] (fun i wx => ∃ j : Nat, j ≤ lk.ps.length ∧ i = .int .i64 (j : Int) ∧ NM w wx w.heap.size (L.take k) ∧ Box wx w5.heap.size lk.num (.slice pao lk.ps.length pcp) ∧ RdI wx (.slice pao lk.ps.length pcp) lk.ps ∧ (∀ p ∈ lk.ps.take j, p ∈ nums (L.take k)) ∧ (∀ i (hi : i < lk.ps.length), i < j → 0 < i → lk.ps[i] ≠ lk.ps[i - 1])) (fun i _ => lk.ps.length - (Go.RowKit.intOf i).toNat)
            case atStart => exact ⟨0, Nat.zero_le _, rfl, hN1, hX, hps1, by simp, fun i _ h => by omega⟩
            case round =>
              obtain ⟨j, hj, rfl, hN2, hX2, hps2, HM, HA⟩ := hrel
              have HM' : Hid (∀ p ∈ lk.ps.take j, p ∈ nums (L.take k)) := HM
              have HA' : Hid (∀ i (hi : i < lk.ps.length), i < j → 0 < i → lk.ps[i] ≠ lk.ps[i - 1]) := HA
              clear HM HA hN1 hX hps1 x0 x1 c0 c1
              by_cases cj : j < lk.ps.length
              · have cj' : (j : Int) < (lk.ps.length : Int) := by omega
                obtain ⟨_, _, e1, hcs⟩ := id hps2
                obtain ⟨pg, poff, e2, hpg, d0⟩ := hcs j lk.ps[j] (by simp [cj])
                simp at e1
                obtain ⟨rfl, rfl⟩ := e1
                subst e2
                have hpj := hpb lk.ps[j] (by simp)
                have cH := has_any hN2.set lk.ps[j] hpj.1 hpj.2
                rw [inS_nums HF.out] at cH
                have HQ : Hid ((nums (L.take k)).contains lk.ps[j] = true → ∀ p ∈ lk.ps.take (j + 1), p ∈ nums (L.take k)) := by
                  intro hq p hp
                  rw [List.take_succ_eq_append_getElem cj] at hp
                  rcases List.mem_append.1 hp with hp | hp
                  · exact HM'.out p hp
                  · simp at hp; subst hp; simpa [List.contains_eq_mem] using hq
                have HB : Hid ((nums (L.take k)).contains lk.ps[j] = false → ¬ Good L) := fun hq => HNG.out (fun hf => by
                  have := hf.mem lk.ps[j] (by simp)
                  simp [List.contains_eq_mem, this] at hq)
                cases hc : (nums (L.take k)).contains lk.ps[j] with
                | false =>
                  rw [hc] at cH
                  have hbad : Hid (¬ Good L) := HB.out hc
                  clear HB HQ HNG HT hcs HM' HA' hc hpj hpb
                  generalize lk.ps[j] = p at *
                  go_wp2_with fail
                  refine cH.mono ?_
                  rintro e w3 ⟨rfl, hb3⟩
                  have hN3 := hN2.below hb3
                  have hown3 : w3.ownsMap Try.prog 3 unitElem w.heap.size 512 (SD (numS (L.take k))) := hN3.set
                  clear cH hN2 hX2 hps2 d0
                  go_wp2_with (at_len; refine wpList_len_own _ rfl _ 68 rfl 3 56 Try.underlying68 _ w.heap.size 512 _ rfl hown3 ?_; rw [hsz.out])
                  (try rw [Exit.noGoto_ret])
                  go_ret2
                  exact ⟨.inr ⟨hbad.out, rfl⟩, hN3.bel⟩
                | true =>
                  rw [hc] at cH
                  have HQ' := HQ.out hc
                  have HQ2 : Hid (∀ p ∈ lk.ps.take (j + 1), p ∈ nums (L.take k)) := HQ'
                  clear HB HQ HQ' HM' hc hpj hpb
                  by_cases j0 : j = 0
                  · have j0' : ¬ (0 : Int) < (j : Int) := by omega
                    have HA2 : Hid (∀ i (hi : i < lk.ps.length), i < j + 1 → 0 < i → lk.ps[i] ≠ lk.ps[i - 1]) := fun i _ h1 h2 => by omega
                    clear hcs HA' HNG HT j0
                    generalize lk.ps[j] = p at *
                    go_wp2_with fail
                    refine cH.mono ?_
                    rintro e w3 ⟨rfl, hb3⟩
                    have hN3 := hN2.below hb3
                    have hX3 := hX2.below hb3
                    have hps3 := hps2.below hb3
                    clear cH hN2 hX2 hps2 d0
                    go_wp2_with fail
                    exact ⟨⟨j + 1, by omega, by go_num, hN3, hX3, hps3, HQ2.out, HA2.out⟩, by simp only [Go.RowKit.intOf]; omega⟩
                  · have j0' : (0 : Int) < (j : Int) := by omega
                    obtain ⟨pg', poff', e3, hpg', d1⟩ := hcs (j - 1) lk.ps[j - 1] (by simp [show j - 1 < lk.ps.length by omega])
                    simp at e3
                    obtain ⟨rfl, rfl⟩ := e3
                    have HW : Hid (∀ w3, Below wr.heap.size wr w3 → w3.cell? ⟨pg, poff + (j - 1), none⟩ = some (.int .i64 lk.ps[j - 1])) := fun w3 hb =>
                       (hb.cell (p := ⟨pg, poff + (j - 1), none⟩) hpg).trans d1
                    clear d1 hcs
                    by_cases he : lk.ps[j] = lk.ps[j - 1]
                    · have hbad : Hid (¬ Good L) := HNG.out (fun hf => nodup_adj hf.nd j cj (by omega) he)
                      clear HNG HT HA' HQ2
                      rw [← he] at HW
                      clear he
                      generalize lk.ps[j] = p at *
                      go_wp2_with fail
                      refine cH.mono ?_
                      rintro e w3 ⟨rfl, hb3⟩
                      have hN3 := hN2.below hb3
                      have hown3 : w3.ownsMap Try.prog 3 unitElem w.heap.size 512 (SD (numS (L.take k))) := hN3.set
                      have y1 := (hX2.below hb3).c1
                      have y2 := HW.out w3 hb3
                      clear cH hN2 hX2 hps2 d0 HW
                      go_wp2_with (at_len; refine wpList_len_own _ rfl _ 68 rfl 3 56 Try.underlying68 _ w.heap.size 512 _ rfl hown3 ?_; rw [hsz.out])
                      (try rw [Exit.noGoto_ret])
                      go_ret2
                      exact ⟨.inr ⟨hbad.out, rfl⟩, hN3.bel⟩
                    · have HA2 : Hid (∀ i (hi : i < lk.ps.length), i < j + 1 → 0 < i → lk.ps[i] ≠ lk.ps[i - 1]) := fun i hi h1 h2 => by
                        by_cases e : i = j
                        · subst e; exact he
                        · exact HA'.out i hi (by omega) h2
                      clear HNG HT HA'
                      generalize lk.ps[j] = p at *
                      generalize lk.ps[j - 1] = q at *
                      go_wp2_with fail
                      refine cH.mono ?_
                      rintro e w3 ⟨rfl, hb3⟩
                      have hN3 := hN2.below hb3
                      have hX3 := hX2.below hb3
                      have hps3 := hps2.below hb3
                      have y1 := hX3.c1
                      have y2 := HW.out w3 hb3
                      clear cH hN2 hX2 hps2 d0 HW
                      go_wp2_with fail
                      exact ⟨⟨j + 1, by omega, by go_num, hN3, hX3, hps3, HQ2.out, HA2.out⟩, by simp only [Go.RowKit.intOf]; omega⟩
              · obtain rfl : j = lk.ps.length := by omega
                have hf : Fits (L.take k) lk := ⟨by omega, by omega, by omega, fun p hp => HM'.out p (by rw [List.take_length]; exact hp), nodup_two (by omega) (fun i hi h0 => HA'.out i hi hi h0)⟩
                have HG : Hid (Good (L.take (k + 1))) := HT.out.2 hf
                have HL : Hid (lastN (L.take (k + 1)) = lk.num) := by show _ = _; rw [HT.out.1, lastN_snoc]
                have HS : Hid (putL (numS (L.take k)) [lk.num] = numS (L.take (k + 1))) := by show _ = _; rw [HT.out.1, numS_snoc]
                clear HT HNG HM' HA' hf hps2
                have y0 := hX2.c0
                have hS4 : IsSet (wr.alloc (.cells #[.int .i64 lk.num] 3)) w.heap.size (numS (L.take k)) := hN2.set.below ((Below.refl wr.heap.size wr).alloc (Nat.le_refl _) _)
                have cP := put_any hS4 (one_rdi wr lk.num) (by simp) (by intro x hx; simp at hx; omega)
                rw [HS.out] at cP
                have hX4 : Box (wr.alloc (.cells #[.int .i64 lk.num] 3)) w5.heap.size lk.num (.slice pao lk.ps.length pcp) := hX2.below ((Below.refl wr.heap.size wr).alloc (Nat.le_refl _) _)
                have hB4 : Below w.heap.size w (wr.alloc (.cells #[.int .i64 lk.num] 3)) := hN2.bel.alloc hN2.bel.size _
                clear hN2 hX2 HS
                go_wp2_with (go_at_call 45; refine cP.mono ?_; rintro e w3 ⟨rfl, hS3, hO3⟩; have z0 := (hX4.only hS4 hO3).c0)
                exact ⟨⟨k + 1, by omega, by rw [HL.out], by go_num, ⟨HG.out, hS3, hB4.trans (hO3.below hB4.size (by simp)), Nat.le_refl _⟩⟩, by simp only [Go.RowKit.intOf]; omega⟩
    · obtain rfl : k = L.length := by omega
      have hg : Hid (Good L) := by have := hN.good; rw [List.take_length] at this; exact this
      have hown1 : wr.ownsMap Try.prog 3 unitElem w.heap.size 512 (SD (numS L)) := by have := hN.set; rw [List.take_length] at this; exact this
      have hsz' : Hid (Maps.size (SD (numS L)) = L.length) := size_good hg.out
      have HB : Hid (Below w.heap.size w wr) := hN.bel
      clear hgb hsz hN hrd hok
      go_wp2_with (at_len; refine wpList_len_own _ rfl _ 68 rfl 3 56 Try.underlying68 _ w.heap.size 512 _ rfl hown1 ?_; rw [hsz'.out])
      (try rw [Exit.noGoto_ret])
      go_ret2
      exact ⟨.inl ⟨hg.out, rfl, hown1⟩, HB.out⟩
end Go.Proofs.Ythhdpabelcgfjaa.dg
