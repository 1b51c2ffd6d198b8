/-
  The reference of record: Pairs.
-/
import Derived.Test.YtdheddgdlindmaaRfC
import Derived.Test.YtdheddgdlindmaaMonT
import Derived.Test.YtdheddgdlindmaaRcS
namespace Go.Proofs.Ytdheddgdlindmaa
open Go.ChangeShapes Go.WideShapes Go.ChangeAt Go.RowKit Go.PlainAid

theorem mk_appR (a b : List UInt8) : mk a ++ mk b = mk (a ++ b) := by
  apply ByteArray.ext
  simp [mk]
theorem tx_mk (s : ByteArray) : (pk.textR s).1 = mk (txsR [s]) := by simp [txsR, mk]
theorem frm_facts {S : StD} (h : frR S = true) : (1 ≤ S.nc ∧ S.nc ≤ 1000000 ∧ 1 ≤ S.nb ∧ S.nb ≤ 1000000) ∧ (S.cs.length ≤ 300 ∧ ∀ x ∈ S.cs, 1 ≤ x.n ∧ coF x = true) ∧ (S.bs.length ≤ 20 ∧ ∀ x ∈ S.bs, 1 ≤ x.i ∧ brF x = true) ∧ (S.us.length ≤ 8 ∧ ∀ x ∈ S.us, 1 ≤ x.c ∧ x.c ≤ 8 ∧ cuF x = true) := by
  unfold frR at h
  simp only [Bool.and_eq_true, decide_eq_true_eq] at h
  obtain ⟨⟨h1, h2⟩, ⟨h3, h4⟩, h5, h6, h7⟩ := h
  have r5 := rwB_all h5
  have r6 := rwB_all h6
  have r7 := rwB_all h7
  refine ⟨⟨h1, h2, h3, h4⟩, ⟨r5.1, fun x hx => ?_⟩, ⟨r6.1, fun x hx => ?_⟩, r7.1, fun x hx => ?_⟩
  · have := r5.2 x hx; exact ⟨by omega, this.2.2⟩
  · have := r6.2 x hx; exact ⟨by omega, this.2.2⟩
  · have := r7.2 x hx; exact ⟨by omega, by omega, this.2.2⟩
theorem many_at {W : World} {g e : Nat} {l : List Value} (h : W.heap[g]? = some (.cells l.toArray e)) : ∀ j u, l[j]? = some u → W.cell? ((⟨g, 0, none⟩ : Addr).add j) = some u := by
  intro j u hj
  have hadd : (⟨g, 0, none⟩ : Addr).add j = ⟨g, j, none⟩ := by unfold Addr.add; split <;> simp_all
  rw [hadd]
  exact (cell_of_row W g j _ _ (0, 0) h).trans (by simpa using hj)
theorem enc_sz {d : List OpD} (hi : ∀ o ∈ d, o.In) : (encR d).1.size ≤ 20000 := by
  have := encB_small hi
  rw [encR]
  split
  · rw [mk_size]; omega
  · show ByteArray.size ⟨#[]⟩ ≤ _; decide
theorem pcs_one (p : PaD) : pcs [p] = [.string p.k, .string p.v] := rfl

def phRb (x : BrD) (al : Option Addr) (kl : Nat) (PL : List PaD) (gx : Nat) (alg : Option Addr) (clg : Nat) (K1 S1 S2 S3 : ByteArray) : Nat → Value → World → Prop
  | 0, v, _ => v = (.slice al PL.length kl)
  | 1, v, _ => v = (.pointer (some ⟨gx, 0, none⟩))
  | 2, v, _ => v = (.int .i64 x.i)
  | 3, v, _ => v = (.string (K1))
  | 4, v, _ => v = (.string (⟨#[98]⟩ ++ K1))
  | 5, v, _ => v = (.pointer (some ⟨gx, 0, none⟩))
  | 6, v, _ => v = (.int .i64 x.i)
  | 7, v, _ => v = (.string (S1))
  | 8, v, _ => v = (.pointer (some ⟨gx, 1, none⟩))
  | 9, v, _ => v = (.string (x.nm))
  | 10, v, _ => v = (.string (S2))
  | 11, v, _ => v = (.string (S1 ++ S2))
  | 12, v, _ => v = (.pointer (some ⟨gx, 2, none⟩))
  | 13, v, _ => v = (.slice alg x.lg.length clg)
  | 14, v, _ => v = (.string (S3))
  | 15, v, _ => v = (.string (S1 ++ S2 ++ S3))
  | 16, v, _ => v = (.agg #[.string (⟨#[98]⟩ ++ K1), .string (S1 ++ S2 ++ S3)])
  | 17, v, W => ∃ g, v = .slice (some ⟨g, 0, none⟩) 1 1 ∧ W.heap[g]? = some (.cells #[.string (⟨#[98]⟩ ++ K1), .string (S1 ++ S2 ++ S3)] 44)
  | _, _, _ => True

theorem phRb_stays {x : BrD} {al : Option Addr} {kl : Nat} {PL : List PaD} {gx : Nat} {alg : Option Addr} {clg : Nat} {K1 S1 S2 S3 : ByteArray} (i : Nat) (v : Value) (w w' : World) (h : phRb x al kl PL gx alg clg K1 S1 S2 S3 i v w) (_hg : Below w.heap.size w w') : phRb x al kl PL gx alg clg K1 S1 S2 S3 i v w' := by
  unfold phRb at h ⊢
  split at h
  all_goals first
    | exact h
    | trivial
    | (obtain ⟨g, e, hg⟩ := h; exact ⟨g, e, (_hg.block g (heap_lt hg)).trans hg⟩)

def phRc (x : CoD) (al : Option Addr) (kl : Nat) (PL : List PaD) (gx : Nat) (alg : Option Addr) (clg : Nat) (D1 D2 K1 S1 S2 S3 S4 S5 S6 : ByteArray) : Nat → Value → World → Prop
  | 0, v, _ => v = (.slice al PL.length kl)
  | 1, v, _ => v = (.pointer (some ⟨gx, 0, none⟩))
  | 2, v, _ => v = (.int .i64 x.n)
  | 3, v, _ => v = (.string (K1))
  | 4, v, _ => v = (.string (⟨#[99]⟩ ++ K1))
  | 5, v, _ => v = (.pointer (some ⟨gx, 0, none⟩))
  | 6, v, _ => v = (.int .i64 x.n)
  | 7, v, _ => v = (.string (S1))
  | 8, v, _ => v = (.pointer (some ⟨gx, 1, none⟩))
  | 9, v, _ => v = (.slice alg x.ps.length clg)
  | 10, v, _ => v = (.string (S2))
  | 11, v, _ => v = (.string (S1 ++ S2))
  | 12, v, _ => v = (.string (D1))
  | 13, v, _ => v = (.string (S3))
  | 14, v, _ => v = (.string (S1 ++ S2 ++ S3))
  | 15, v, _ => v = (.string (D2))
  | 16, v, _ => v = (.string (S4))
  | 17, v, _ => v = (.string (S1 ++ S2 ++ S3 ++ S4))
  | 18, v, _ => v = (.pointer (some ⟨gx, 4, none⟩))
  | 19, v, _ => v = (.int .i64 x.c)
  | 20, v, _ => v = (.string (S5))
  | 21, v, _ => v = (.string (S1 ++ S2 ++ S3 ++ S4 ++ S5))
  | 22, v, _ => v = (.pointer (some ⟨gx, 5, none⟩))
  | 23, v, _ => v = (.int .i64 x.s)
  | 24, v, _ => v = (.string (S6))
  | 25, v, _ => v = (.string (S1 ++ S2 ++ S3 ++ S4 ++ S5 ++ S6))
  | 26, v, _ => v = (.agg #[.string (⟨#[99]⟩ ++ K1), .string (S1 ++ S2 ++ S3 ++ S4 ++ S5 ++ S6)])
  | 27, v, W => ∃ g, v = .slice (some ⟨g, 0, none⟩) 1 1 ∧ W.heap[g]? = some (.cells #[.string (⟨#[99]⟩ ++ K1), .string (S1 ++ S2 ++ S3 ++ S4 ++ S5 ++ S6)] 44)
  | _, _, _ => True

theorem phRc_stays {x : CoD} {al : Option Addr} {kl : Nat} {PL : List PaD} {gx : Nat} {alg : Option Addr} {clg : Nat} {D1 D2 K1 S1 S2 S3 S4 S5 S6 : ByteArray} (i : Nat) (v : Value) (w w' : World) (h : phRc x al kl PL gx alg clg D1 D2 K1 S1 S2 S3 S4 S5 S6 i v w) (_hg : Below w.heap.size w w') : phRc x al kl PL gx alg clg D1 D2 K1 S1 S2 S3 S4 S5 S6 i v w' := by
  unfold phRc at h ⊢
  split at h
  all_goals first
    | exact h
    | trivial
    | (obtain ⟨g, e, hg⟩ := h; exact ⟨g, e, (_hg.block g (heap_lt hg)).trans hg⟩)

def phRn (nc nb : Int) (al : Option Addr) (kl : Nat) (PL : List PaD) (gx : Nat) (S1 S2 : ByteArray) : Nat → Value → World → Prop
  | 0, v, _ => v = (.slice al PL.length kl)
  | 1, v, _ => v = (.pointer (some ⟨gx, 0, none⟩))
  | 2, v, _ => v = (.int .i64 nc)
  | 3, v, _ => v = (.string (S1))
  | 4, v, _ => v = (.pointer (some ⟨gx, 1, none⟩))
  | 5, v, _ => v = (.int .i64 nb)
  | 6, v, _ => v = (.string (S2))
  | 7, v, _ => v = (.string (S1 ++ S2))
  | 8, v, _ => v = (.agg #[.string ⟨#[110]⟩, .string (S1 ++ S2)])
  | 9, v, W => ∃ g, v = .slice (some ⟨g, 0, none⟩) 1 1 ∧ W.heap[g]? = some (.cells #[.string (⟨#[110]⟩), .string (S1 ++ S2)] 44)
  | _, _, _ => True

theorem phRn_stays {nc nb : Int} {al : Option Addr} {kl : Nat} {PL : List PaD} {gx : Nat} {S1 S2 : ByteArray} (i : Nat) (v : Value) (w w' : World) (h : phRn nc nb al kl PL gx S1 S2 i v w) (_hg : Below w.heap.size w w') : phRn nc nb al kl PL gx S1 S2 i v w' := by
  unfold phRn at h ⊢
  split at h
  all_goals first
    | exact h
    | trivial
    | (obtain ⟨g, e, hg⟩ := h; exact ⟨g, e, (_hg.block g (heap_lt hg)).trans hg⟩)

def phRu (x : CuD) (al : Option Addr) (kl : Nat) (PL : List PaD) (gx : Nat) (K1 S1 S2 S3 : ByteArray) : Nat → Value → World → Prop
  | 0, v, _ => v = (.slice al PL.length kl)
  | 1, v, _ => v = (.pointer (some ⟨gx, 0, none⟩))
  | 2, v, _ => v = (.int .i64 x.c)
  | 3, v, _ => v = (.int .u8 x.c)
  | 4, v, W => ∃ g, v = .slice (some ⟨g, 0, none⟩) 1 1 ∧ W.heap[g]? = some (.cells #[.int .u8 x.c] 5)
  | 5, v, _ => v = (.string (K1))
  | 6, v, _ => v = (.string (⟨#[117]⟩ ++ K1))
  | 7, v, _ => v = (.pointer (some ⟨gx, 0, none⟩))
  | 8, v, _ => v = (.int .i64 x.c)
  | 9, v, _ => v = (.string (S1))
  | 10, v, _ => v = (.pointer (some ⟨gx, 1, none⟩))
  | 11, v, _ => v = (.int .i64 x.b)
  | 12, v, _ => v = (.string (S2))
  | 13, v, _ => v = (.string (S1 ++ S2))
  | 14, v, _ => v = (.pointer (some ⟨gx, 2, none⟩))
  | 15, v, _ => v = (.int .i64 x.s)
  | 16, v, _ => v = (.string (S3))
  | 17, v, _ => v = (.string (S1 ++ S2 ++ S3))
  | 18, v, _ => v = (.agg #[.string (⟨#[117]⟩ ++ K1), .string (S1 ++ S2 ++ S3)])
  | 19, v, W => ∃ g, v = .slice (some ⟨g, 0, none⟩) 1 1 ∧ W.heap[g]? = some (.cells #[.string (⟨#[117]⟩ ++ K1), .string (S1 ++ S2 ++ S3)] 44)
  | _, _, _ => True

theorem phRu_stays {x : CuD} {al : Option Addr} {kl : Nat} {PL : List PaD} {gx : Nat} {K1 S1 S2 S3 : ByteArray} (i : Nat) (v : Value) (w w' : World) (h : phRu x al kl PL gx K1 S1 S2 S3 i v w) (_hg : Below w.heap.size w w') : phRu x al kl PL gx K1 S1 S2 S3 i v w' := by
  unfold phRu at h ⊢
  split at h
  all_goals first
    | exact h
    | trivial
    | (obtain ⟨g, e, hg⟩ := h; exact ⟨g, e, (_hg.block g (heap_lt hg)).trans hg⟩)

set_option maxRecDepth 30000 in
set_option maxHeartbeats 16000000 in
theorem pairs15_any (S : StD) (v1 v2 v3 : Value) (w : World) (hr : RdSt w v1 v2 v3 S) (hF : S.Fit) (hS : S.Sm) :
    Calls Try.prog 10 #[.agg (S.fs v1 v2 v3)] w fun e w' => ∃ u, e = .returned (.tuple #[u, .int .i64 (prE S).2]) ∧ w'.ownsRow w.heap.size 44 2 u (prE S).1.length (pcs (prE S).1) ∧ Below w.heap.size w w' := by
  obtain ⟨i0, hin, hz0, hz1, hz2⟩ := info_parts Try.infoPa
  have hal := alloc_bR w (.cells (S.fs v1 v2 v3) 26)
  have hx := sb_new w S v1 v2 v3
  have hr1 := hr.below hal
  have c1 := form15_any S v1 v2 v3 _ hr1 hF hS
  obtain ⟨a1, k1, e1, hcs⟩ := hr.c
  subst e1
  obtain ⟨a2, k2, e2, hbs⟩ := hr.b
  subst e2
  obtain ⟨a3, k3, e3, hus⟩ := hr.u
  subst e3
  generalize hw1 : w.alloc (.cells (S.fs (.slice a1 S.cs.length k1) (.slice a2 S.bs.length k2) (.slice a3 S.us.length k3)) 26) = w1 at *
  obtain ⟨R, HR⟩ : ∃ R, Hid (prE S = R) := ⟨_, rfl⟩
  rw [HR.out]
  have HRn : stF S = false → R = ([], 150) := fun h => by rw [← HR.out, prE, if_neg (by rw [h]; decide)]
  have HRy : stF S = true → R = (prD S, 0) := fun h => by rw [← HR.out, prE, if_pos h]
  have hfr := stF_eq S
  have hff := @frm_facts S
  clear HR hr hr1
  obtain ⟨nc, nb, cs, bs, us⟩ := S
  simp only [StD.fs, StD.Sm, prD] at *
  have hX : ∀ W', Below w1.heap.size w1 W' → W'.cell? ⟨w.heap.size, 0, none⟩ = some (.int .i64 nc) ∧ W'.cell? ⟨w.heap.size, 1, none⟩ = some (.int .i64 nb) ∧ W'.cell? ⟨w.heap.size, 2, none⟩ = some (.slice a1 cs.length k1) ∧ W'.cell? ⟨w.heap.size, 3, none⟩ = some (.slice a2 bs.length k2) ∧ W'.cell? ⟨w.heap.size, 4, none⟩ = some (.slice a3 us.length k3) := fun W' h => cellsSB (hx.below h)
  obtain ⟨x0, x1, x2, x3, x4⟩ := hX w1 (Below.refl _ _)
  go_enter Try.func10, Try.ntmps10
  go_wp2_with fail
  refine c1.mono ?_
  rintro e w3 ⟨rfl, hb3⟩
  have hB3 := hal.trans (hb3.mono hal.size)
  clear x0 x1 x2 x3 x4 c1 hw1
  cases hfq : frR ⟨nc, nb, cs, bs, us⟩ with
  | false =>
    have e := HRn (by rw [hfr, hfq]; rfl)
    subst e
    clear HRn HRy hfr hff
    go_wp2_with fail
    go_ret2
    exact ⟨_, rfl, World.ownsRow_nil _ _ _ _, hB3⟩
  | true =>
    rw [hfq, Bool.true_and] at hfr
    obtain ⟨⟨q1, q2, q3, q4⟩, ⟨qc, qcs⟩, ⟨qb, qbs⟩, qu, qus⟩ := hff hfq
    clear hff hfq hx
    simp only at *
    go_wp2_with fail
    go_loopw [4, 5] (fun lv i wr => ∃ (k : Nat) (PL : List PaD), k ≤ bs.length ∧ i = .int .i64 (k : Int) ∧ Hid (PL = (bs.take k).map brP) ∧ PL.length ≤ 20 ∧ Hid (∀ x ∈ bs.take k, x.i ≤ 65535) ∧ wr.ownsRow w3.heap.size 44 2 lv PL.length (pcs PL) ∧ Below w3.heap.size w3 wr) (fun _ i _ => bs.length - (Go.RowKit.intOf i).toNat)
    case atStart => exact ⟨0, [], by omega, rfl, by show _ = _; simp, by simp, (fun x hx => by simp at hx), World.ownsRow_nil _ _ _ _, Below.refl _ _⟩
    case round =>
      obtain ⟨k, PL, hk, rfl, HP, hPl, HA, ho, hbl⟩ := hrel
      obtain ⟨al, kl, rfl⟩ := own_form ho
      have hb3r := hb3.trans (hbl.mono hb3.size)
      obtain ⟨x0, x1, x2, x3, x4⟩ := hX wr hb3r
      have hBw := hB3.trans (hbl.mono hB3.size)
      by_cases hlt : k < bs.length
      · have hlt' : (k : Int) < (bs.length : Int) := by omega
        obtain ⟨g, off, lv, rfl, hg, ⟨c0, c1, c2⟩, s0⟩ := hbs k bs[k] (by simp [hlt])
        rw [← hBw.cell (p := ⟨g, _, none⟩) hg] at c0 c1 c2
        have hxo := qbs bs[k] (List.getElem_mem hlt)
        have hft := hF.bs bs[k] (List.getElem_mem hlt)
        have hlp : PL.length ≤ 19 := by
          have := HP.out
          rw [this, List.length_map, List.length_take]
          omega
        have HP2 : Hid (PL ++ [brP bs[k]] = (bs.take (k + 1)).map brP) := by show _ = _; rw [HP.out, map_take_succ brP bs k hlt]
        have HA2 : bs[k].i ≤ 65535 → Hid (∀ x ∈ bs.take (k + 1), x.i ≤ 65535) := fun h x hx => by
          rw [List.take_succ_eq_append_getElem hlt] at hx
          rcases List.mem_append.1 hx with h1 | h1
          · exact HA.out x h1
          · rw [List.mem_singleton.1 h1]; exact h
        have HAn : ¬ bs[k].i ≤ 65535 → (cs.all (fun x => decide (x.n ≤ 65535)) && bs.all (fun x => decide (x.i ≤ 65535))) = false := fun h => by
          rw [Bool.and_eq_false_iff]
          exact .inr (List.all_eq_false.2 ⟨bs[k], List.getElem_mem hlt, by simpa using h⟩)
        generalize bs[k] = x at *
        obtain ⟨alg, clg, rfl⟩ := rdi_len s0
        have hal4 := alloc_bR wr (.cells #[.int .i64 x.i, .string x.nm, .slice alg x.lg.length clg] 50)
        have hnw4 := heap_alloc_new wr (.cells #[.int .i64 x.i, .string x.nm, .slice alg x.lg.length clg] 50)
        have hB4 := hBw.trans (hal4.mono hBw.size)
        have ho4 := own_belowG ho hal4
        have hbl4 := hbl.trans (hal4.mono hbl.size)
        have m0 : (wr.alloc (.cells #[.int .i64 x.i, .string x.nm, .slice alg x.lg.length clg] 50)).cell? ⟨wr.heap.size, 0, none⟩ = some (.int .i64 x.i) := cell_of_row _ _ 0 _ _ (0, 0) hnw4
        by_cases hbig : x.i > 65535
        · have e := HRn (by rw [hfr, HAn (by omega)])
          subst e
          clear HRn HRy hfr HP HA HP2 HA2 HAn hnw4 hbs hcs hus
          go_wp2_with fail
          go_ret2
          exact ⟨_, rfl, World.ownsRow_nil _ _ _ _, hB4⟩
        · have HA3 := HA2 (by omega)
          clear HA2 HAn HP HA
          have hnm := brF_name hxo.2
          have hnl := brF_nums hxo.2
          have hw65 : ¬ x.i > 65535 := hbig
          obtain ⟨K1, HK1⟩ : ∃ s, Hid (s = mk [UInt8.ofNat (x.i.toNat / 256), UInt8.ofNat x.i.toNat]) := ⟨_, rfl⟩
          obtain ⟨S1, HS1⟩ : ∃ s, Hid (s = mk (numB x.i.toNat)) := ⟨_, rfl⟩
          obtain ⟨S2, HS2⟩ : ∃ s, Hid (s = (pk.textR x.nm).1) := ⟨_, rfl⟩
          obtain ⟨S3, HS3⟩ : ∃ s, Hid (s = mk (nmB (x.lg.length :: x.lg.map Int.toNat))) := ⟨_, rfl⟩
          have HK : Hid (⟨#[98]⟩ ++ K1 = (brP x).k) := by show _ = _; rw [HK1.out]; exact mk_appR [98] _
          have HV : Hid (S1 ++ S2 ++ S3 = (brP x).v) := by show _ = _; rw [HS1.out, HS2.out, HS3.out, tx_mk, ← nmB_one, mk_appR, mk_appR]; rfl
          have z0 : K1.size ≤ 10 := by rw [HK1.out, mk_size]; simp
          have z1 : S1.size ≤ 10 := by rw [HS1.out, mk_size]; exact numB_len
          have z2 : S2.size ≤ 20020 := by rw [HS2.out]; exact textR_lenR x.nm
          have y0 : ¬ 9223372036854775807 < 1 + K1.size := by omega
          have y1 : ¬ 9223372036854775807 < S1.size + S2.size := by omega
          have z3 : S3.size ≤ 10000010 := by rw [HS3.out, mk_size]; have := nmB_len (x.lg.length :: x.lg.map Int.toNat); have := hnl.1; simp only [List.length_cons, List.length_map] at *; omega
          have y2 : ¬ 9223372036854775807 < S1.size + S2.size + S3.size := by omega
          generalize hwa : wr.alloc (.cells #[.int .i64 x.i, .string x.nm, .slice alg x.lg.length clg] 50) = wa at *
          have hDr : Below wa.heap.size wa wa.drew := Below.drew (Below.refl _ _)
          have hcel : ∀ W, Below wa.drew.heap.size wa.drew W → W.cell? ⟨wr.heap.size, 0, none⟩ = some (.int .i64 x.i) ∧ W.cell? ⟨wr.heap.size, 1, none⟩ = some (.string x.nm) ∧ W.cell? ⟨wr.heap.size, 2, none⟩ = some (.slice alg x.lg.length clg) := fun W h => by
            have hh := ((hDr.trans (h.mono hDr.size)).block _ (heap_lt hnw4)).trans hnw4
            have q := fun j => cell_of_row W wr.heap.size j _ _ (0, 0) hh
            exact ⟨q 0, q 1, q 2⟩
          have n0 := fun W (_ : Below wa.drew.heap.size wa.drew W) => two15_any x.i W (by omega) (by omega)
          have n1 := fun W (_ : Below wa.drew.heap.size wa.drew W) => num15_any x.i W (by omega) (by omega)
          have n2 := fun W (_ : Below wa.drew.heap.size wa.drew W) => text15_any x.nm W (by unfold maxLen; omega)
          have n3 := fun W (h : Below wa.drew.heap.size wa.drew W) => numbers15_any (.slice alg x.lg.length clg) x.lg W (s0.below ((hB4.trans (hDr.mono hB4.size)).trans (h.mono (Nat.le_trans hB4.size hDr.size)))) hnl
          rw [← HK1.out] at n0
          rw [← HS1.out] at n1
          rw [← HS2.out] at n2
          rw [← HS3.out] at n3
          have hwd := hbl4.trans (hDr.mono hbl4.size)
          clear hbs hcs hus hnw4 ho
          have ho := ho4
          clear ho4
          go_upto_region 10 with fail
          clear c0 c1 c2 x0 x1 x2 x3 x4 m0 hwa
          generalize wr.heap.size = gx at *
          refine mono.region_monoT (phRb x al kl PL gx alg clg K1 S1 S2 S3) 18 153 [] [0, 1, 2, 3, 4, 5, 6, 7, 8, 9, 10, 11, 12, 13, 14, 15, 16, 17] (by kernel_rfl) rfl rfl (by kernel_rfl) (by kernel_rfl) (by kernel_rfl) (by kernel_rfl) (by kernel_rfl) (by kernel_rfl) phRb_stays (.cons ?_ (.cons ?_ (.cons ?_ (.cons ?_ (.cons ?_ (.cons ?_ (.cons ?_ (.cons ?_ (.cons ?_ (.cons ?_ (.cons ?_ (.cons ?_ (.cons ?_ (.cons ?_ (.cons ?_ (.cons ?_ (.cons ?_ (.cons ?_ (.nil))))))))))))))))))) ?_
          · refine mono.dutyT_of rfl ?_
            intro f W hR hO hD K hK
            have eL : mono.lit 153 f [] = ⟨#[f 0, f 1, f 2, f 3, f 4, f 5, f 6, f 7, f 8, f 9, f 10, f 11, f 12, f 13, f 14, f 15, f 16, f 17, f 18, f 19, f 20, f 21, f 22, f 23, f 24, f 25, f 26, f 27, f 28, f 29, f 30, f 31, f 32, f 33, f 34, f 35, f 36, f 37, f 38, f 39, f 40, f 41, f 42, f 43, f 44, f 45, f 46, f 47, f 48, f 49, f 50, f 51, f 52, f 53, f 54, f 55, f 56, f 57, f 58, f 59, f 60, f 61, f 62, f 63, f 64, f 65, f 66, f 67, f 68, f 69, f 70, f 71, f 72, f 73, f 74, f 75, f 76, f 77, f 78, f 79, f 80, f 81, f 82, f 83, f 84, f 85, f 86, f 87, f 88, f 89, f 90, f 91, f 92, f 93, f 94, f 95, f 96, f 97, f 98, f 99, f 100, f 101, f 102, f 103, f 104, f 105, f 106, f 107, f 108, f 109, f 110, f 111, f 112, f 113, f 114, f 115, f 116, f 117, f 118, f 119, f 120, f 121, f 122, f 123, f 124, f 125, f 126, f 127, f 128, f 129, f 130, f 131, f 132, f 133, f 134, f 135, f 136, f 137, f 138, f 139, f 140, f 141, f 142, f 143, f 144, f 145, f 146, f 147, f 148, f 149, f 150, f 151, f 152], []⟩ := rfl
            replace hK : ∀ v W', Below W.heap.size W W' → phRb x al kl PL gx alg clg K1 S1 S2 S3 0 v W' → K ((mono.lit 153 f []).put (some 33) v) W' := hK
            rw [eL] at hK ⊢
            simp only [Act.put, List.setIfInBounds_toArray, List.set_cons_succ, List.set_cons_zero] at hK
            have o4 : f 4 = (.slice al PL.length kl) := hO 4 (by kernel_rfl)
            rw [o4] at hK ⊢
            go_simp
            exact hK _ _ (Below.refl _ _) rfl
          · refine mono.dutyT_of rfl ?_
            intro f W hR hO hD K hK
            have eL : mono.lit 153 f [] = ⟨#[f 0, f 1, f 2, f 3, f 4, f 5, f 6, f 7, f 8, f 9, f 10, f 11, f 12, f 13, f 14, f 15, f 16, f 17, f 18, f 19, f 20, f 21, f 22, f 23, f 24, f 25, f 26, f 27, f 28, f 29, f 30, f 31, f 32, f 33, f 34, f 35, f 36, f 37, f 38, f 39, f 40, f 41, f 42, f 43, f 44, f 45, f 46, f 47, f 48, f 49, f 50, f 51, f 52, f 53, f 54, f 55, f 56, f 57, f 58, f 59, f 60, f 61, f 62, f 63, f 64, f 65, f 66, f 67, f 68, f 69, f 70, f 71, f 72, f 73, f 74, f 75, f 76, f 77, f 78, f 79, f 80, f 81, f 82, f 83, f 84, f 85, f 86, f 87, f 88, f 89, f 90, f 91, f 92, f 93, f 94, f 95, f 96, f 97, f 98, f 99, f 100, f 101, f 102, f 103, f 104, f 105, f 106, f 107, f 108, f 109, f 110, f 111, f 112, f 113, f 114, f 115, f 116, f 117, f 118, f 119, f 120, f 121, f 122, f 123, f 124, f 125, f 126, f 127, f 128, f 129, f 130, f 131, f 132, f 133, f 134, f 135, f 136, f 137, f 138, f 139, f 140, f 141, f 142, f 143, f 144, f 145, f 146, f 147, f 148, f 149, f 150, f 151, f 152], []⟩ := rfl
            replace hK : ∀ v W', Below W.heap.size W W' → phRb x al kl PL gx alg clg K1 S1 S2 S3 1 v W' → K ((mono.lit 153 f []).put (some 34) v) W' := hK
            rw [eL] at hK ⊢
            simp only [Act.put, List.setIfInBounds_toArray, List.set_cons_succ, List.set_cons_zero] at hK
            have o6 : f 6 = (.pointer (some ⟨gx, 0, none⟩)) := hO 6 (by kernel_rfl)
            rw [o6] at hK ⊢
            go_simp
            exact hK _ _ (Below.refl _ _) rfl
          · refine mono.dutyT_of rfl ?_
            intro f W hR hO hD K hK
            have eL : mono.lit 153 f [] = ⟨#[f 0, f 1, f 2, f 3, f 4, f 5, f 6, f 7, f 8, f 9, f 10, f 11, f 12, f 13, f 14, f 15, f 16, f 17, f 18, f 19, f 20, f 21, f 22, f 23, f 24, f 25, f 26, f 27, f 28, f 29, f 30, f 31, f 32, f 33, f 34, f 35, f 36, f 37, f 38, f 39, f 40, f 41, f 42, f 43, f 44, f 45, f 46, f 47, f 48, f 49, f 50, f 51, f 52, f 53, f 54, f 55, f 56, f 57, f 58, f 59, f 60, f 61, f 62, f 63, f 64, f 65, f 66, f 67, f 68, f 69, f 70, f 71, f 72, f 73, f 74, f 75, f 76, f 77, f 78, f 79, f 80, f 81, f 82, f 83, f 84, f 85, f 86, f 87, f 88, f 89, f 90, f 91, f 92, f 93, f 94, f 95, f 96, f 97, f 98, f 99, f 100, f 101, f 102, f 103, f 104, f 105, f 106, f 107, f 108, f 109, f 110, f 111, f 112, f 113, f 114, f 115, f 116, f 117, f 118, f 119, f 120, f 121, f 122, f 123, f 124, f 125, f 126, f 127, f 128, f 129, f 130, f 131, f 132, f 133, f 134, f 135, f 136, f 137, f 138, f 139, f 140, f 141, f 142, f 143, f 144, f 145, f 146, f 147, f 148, f 149, f 150, f 151, f 152], []⟩ := rfl
            replace hK : ∀ v W', Below W.heap.size W W' → phRb x al kl PL gx alg clg K1 S1 S2 S3 2 v W' → K ((mono.lit 153 f []).put (some 35) v) W' := hK
            rw [eL] at hK ⊢
            simp only [Act.put, List.setIfInBounds_toArray, List.set_cons_succ, List.set_cons_zero] at hK
            have q1 := hD 1 34 (by kernel_rfl) (by kernel_rfl)
            replace q1 : f 34 = (.pointer (some ⟨gx, 0, none⟩)) := q1
            rw [q1] at hK ⊢
            obtain ⟨x0, x1, x2⟩ := hcel W hR
            go_simp
            exact hK _ _ (Below.refl _ _) rfl
          · refine mono.dutyT_of rfl ?_
            intro f W hR hO hD K hK
            have eL : mono.lit 153 f [] = ⟨#[f 0, f 1, f 2, f 3, f 4, f 5, f 6, f 7, f 8, f 9, f 10, f 11, f 12, f 13, f 14, f 15, f 16, f 17, f 18, f 19, f 20, f 21, f 22, f 23, f 24, f 25, f 26, f 27, f 28, f 29, f 30, f 31, f 32, f 33, f 34, f 35, f 36, f 37, f 38, f 39, f 40, f 41, f 42, f 43, f 44, f 45, f 46, f 47, f 48, f 49, f 50, f 51, f 52, f 53, f 54, f 55, f 56, f 57, f 58, f 59, f 60, f 61, f 62, f 63, f 64, f 65, f 66, f 67, f 68, f 69, f 70, f 71, f 72, f 73, f 74, f 75, f 76, f 77, f 78, f 79, f 80, f 81, f 82, f 83, f 84, f 85, f 86, f 87, f 88, f 89, f 90, f 91, f 92, f 93, f 94, f 95, f 96, f 97, f 98, f 99, f 100, f 101, f 102, f 103, f 104, f 105, f 106, f 107, f 108, f 109, f 110, f 111, f 112, f 113, f 114, f 115, f 116, f 117, f 118, f 119, f 120, f 121, f 122, f 123, f 124, f 125, f 126, f 127, f 128, f 129, f 130, f 131, f 132, f 133, f 134, f 135, f 136, f 137, f 138, f 139, f 140, f 141, f 142, f 143, f 144, f 145, f 146, f 147, f 148, f 149, f 150, f 151, f 152], []⟩ := rfl
            replace hK : ∀ v W', Below W.heap.size W W' → phRb x al kl PL gx alg clg K1 S1 S2 S3 3 v W' → K ((mono.lit 153 f []).put (some 36) v) W' := hK
            rw [eL] at hK ⊢
            simp only [Act.put, List.setIfInBounds_toArray, List.set_cons_succ, List.set_cons_zero] at hK
            have q2 := hD 2 35 (by kernel_rfl) (by kernel_rfl)
            replace q2 : f 35 = (.int .i64 x.i) := q2
            rw [q2] at hK ⊢
            have cX := n0 W hR
            go_simp
            refine cX.mono ?_
            rintro e w9 ⟨rfl, hb⟩
            exact hK _ _ hb rfl
          · refine mono.dutyT_of rfl ?_
            intro f W hR hO hD K hK
            have eL : mono.lit 153 f [] = ⟨#[f 0, f 1, f 2, f 3, f 4, f 5, f 6, f 7, f 8, f 9, f 10, f 11, f 12, f 13, f 14, f 15, f 16, f 17, f 18, f 19, f 20, f 21, f 22, f 23, f 24, f 25, f 26, f 27, f 28, f 29, f 30, f 31, f 32, f 33, f 34, f 35, f 36, f 37, f 38, f 39, f 40, f 41, f 42, f 43, f 44, f 45, f 46, f 47, f 48, f 49, f 50, f 51, f 52, f 53, f 54, f 55, f 56, f 57, f 58, f 59, f 60, f 61, f 62, f 63, f 64, f 65, f 66, f 67, f 68, f 69, f 70, f 71, f 72, f 73, f 74, f 75, f 76, f 77, f 78, f 79, f 80, f 81, f 82, f 83, f 84, f 85, f 86, f 87, f 88, f 89, f 90, f 91, f 92, f 93, f 94, f 95, f 96, f 97, f 98, f 99, f 100, f 101, f 102, f 103, f 104, f 105, f 106, f 107, f 108, f 109, f 110, f 111, f 112, f 113, f 114, f 115, f 116, f 117, f 118, f 119, f 120, f 121, f 122, f 123, f 124, f 125, f 126, f 127, f 128, f 129, f 130, f 131, f 132, f 133, f 134, f 135, f 136, f 137, f 138, f 139, f 140, f 141, f 142, f 143, f 144, f 145, f 146, f 147, f 148, f 149, f 150, f 151, f 152], []⟩ := rfl
            replace hK : ∀ v W', Below W.heap.size W W' → phRb x al kl PL gx alg clg K1 S1 S2 S3 4 v W' → K ((mono.lit 153 f []).put (some 37) v) W' := hK
            rw [eL] at hK ⊢
            simp only [Act.put, List.setIfInBounds_toArray, List.set_cons_succ, List.set_cons_zero] at hK
            have q3 := hD 3 36 (by kernel_rfl) (by kernel_rfl)
            replace q3 : f 36 = (.string (K1)) := q3
            rw [q3] at hK ⊢
            go_simp
            exact hK _ _ (Below.refl _ _) rfl
          · refine mono.dutyT_of rfl ?_
            intro f W hR hO hD K hK
            have eL : mono.lit 153 f [] = ⟨#[f 0, f 1, f 2, f 3, f 4, f 5, f 6, f 7, f 8, f 9, f 10, f 11, f 12, f 13, f 14, f 15, f 16, f 17, f 18, f 19, f 20, f 21, f 22, f 23, f 24, f 25, f 26, f 27, f 28, f 29, f 30, f 31, f 32, f 33, f 34, f 35, f 36, f 37, f 38, f 39, f 40, f 41, f 42, f 43, f 44, f 45, f 46, f 47, f 48, f 49, f 50, f 51, f 52, f 53, f 54, f 55, f 56, f 57, f 58, f 59, f 60, f 61, f 62, f 63, f 64, f 65, f 66, f 67, f 68, f 69, f 70, f 71, f 72, f 73, f 74, f 75, f 76, f 77, f 78, f 79, f 80, f 81, f 82, f 83, f 84, f 85, f 86, f 87, f 88, f 89, f 90, f 91, f 92, f 93, f 94, f 95, f 96, f 97, f 98, f 99, f 100, f 101, f 102, f 103, f 104, f 105, f 106, f 107, f 108, f 109, f 110, f 111, f 112, f 113, f 114, f 115, f 116, f 117, f 118, f 119, f 120, f 121, f 122, f 123, f 124, f 125, f 126, f 127, f 128, f 129, f 130, f 131, f 132, f 133, f 134, f 135, f 136, f 137, f 138, f 139, f 140, f 141, f 142, f 143, f 144, f 145, f 146, f 147, f 148, f 149, f 150, f 151, f 152], []⟩ := rfl
            replace hK : ∀ v W', Below W.heap.size W W' → phRb x al kl PL gx alg clg K1 S1 S2 S3 5 v W' → K ((mono.lit 153 f []).put (some 38) v) W' := hK
            rw [eL] at hK ⊢
            simp only [Act.put, List.setIfInBounds_toArray, List.set_cons_succ, List.set_cons_zero] at hK
            have o6 : f 6 = (.pointer (some ⟨gx, 0, none⟩)) := hO 6 (by kernel_rfl)
            rw [o6] at hK ⊢
            go_simp
            exact hK _ _ (Below.refl _ _) rfl
          · refine mono.dutyT_of rfl ?_
            intro f W hR hO hD K hK
            have eL : mono.lit 153 f [] = ⟨#[f 0, f 1, f 2, f 3, f 4, f 5, f 6, f 7, f 8, f 9, f 10, f 11, f 12, f 13, f 14, f 15, f 16, f 17, f 18, f 19, f 20, f 21, f 22, f 23, f 24, f 25, f 26, f 27, f 28, f 29, f 30, f 31, f 32, f 33, f 34, f 35, f 36, f 37, f 38, f 39, f 40, f 41, f 42, f 43, f 44, f 45, f 46, f 47, f 48, f 49, f 50, f 51, f 52, f 53, f 54, f 55, f 56, f 57, f 58, f 59, f 60, f 61, f 62, f 63, f 64, f 65, f 66, f 67, f 68, f 69, f 70, f 71, f 72, f 73, f 74, f 75, f 76, f 77, f 78, f 79, f 80, f 81, f 82, f 83, f 84, f 85, f 86, f 87, f 88, f 89, f 90, f 91, f 92, f 93, f 94, f 95, f 96, f 97, f 98, f 99, f 100, f 101, f 102, f 103, f 104, f 105, f 106, f 107, f 108, f 109, f 110, f 111, f 112, f 113, f 114, f 115, f 116, f 117, f 118, f 119, f 120, f 121, f 122, f 123, f 124, f 125, f 126, f 127, f 128, f 129, f 130, f 131, f 132, f 133, f 134, f 135, f 136, f 137, f 138, f 139, f 140, f 141, f 142, f 143, f 144, f 145, f 146, f 147, f 148, f 149, f 150, f 151, f 152], []⟩ := rfl
            replace hK : ∀ v W', Below W.heap.size W W' → phRb x al kl PL gx alg clg K1 S1 S2 S3 6 v W' → K ((mono.lit 153 f []).put (some 39) v) W' := hK
            rw [eL] at hK ⊢
            simp only [Act.put, List.setIfInBounds_toArray, List.set_cons_succ, List.set_cons_zero] at hK
            have q5 := hD 5 38 (by kernel_rfl) (by kernel_rfl)
            replace q5 : f 38 = (.pointer (some ⟨gx, 0, none⟩)) := q5
            rw [q5] at hK ⊢
            obtain ⟨x0, x1, x2⟩ := hcel W hR
            go_simp
            exact hK _ _ (Below.refl _ _) rfl
          · refine mono.dutyT_of rfl ?_
            intro f W hR hO hD K hK
            have eL : mono.lit 153 f [] = ⟨#[f 0, f 1, f 2, f 3, f 4, f 5, f 6, f 7, f 8, f 9, f 10, f 11, f 12, f 13, f 14, f 15, f 16, f 17, f 18, f 19, f 20, f 21, f 22, f 23, f 24, f 25, f 26, f 27, f 28, f 29, f 30, f 31, f 32, f 33, f 34, f 35, f 36, f 37, f 38, f 39, f 40, f 41, f 42, f 43, f 44, f 45, f 46, f 47, f 48, f 49, f 50, f 51, f 52, f 53, f 54, f 55, f 56, f 57, f 58, f 59, f 60, f 61, f 62, f 63, f 64, f 65, f 66, f 67, f 68, f 69, f 70, f 71, f 72, f 73, f 74, f 75, f 76, f 77, f 78, f 79, f 80, f 81, f 82, f 83, f 84, f 85, f 86, f 87, f 88, f 89, f 90, f 91, f 92, f 93, f 94, f 95, f 96, f 97, f 98, f 99, f 100, f 101, f 102, f 103, f 104, f 105, f 106, f 107, f 108, f 109, f 110, f 111, f 112, f 113, f 114, f 115, f 116, f 117, f 118, f 119, f 120, f 121, f 122, f 123, f 124, f 125, f 126, f 127, f 128, f 129, f 130, f 131, f 132, f 133, f 134, f 135, f 136, f 137, f 138, f 139, f 140, f 141, f 142, f 143, f 144, f 145, f 146, f 147, f 148, f 149, f 150, f 151, f 152], []⟩ := rfl
            replace hK : ∀ v W', Below W.heap.size W W' → phRb x al kl PL gx alg clg K1 S1 S2 S3 7 v W' → K ((mono.lit 153 f []).put (some 40) v) W' := hK
            rw [eL] at hK ⊢
            simp only [Act.put, List.setIfInBounds_toArray, List.set_cons_succ, List.set_cons_zero] at hK
            have q6 := hD 6 39 (by kernel_rfl) (by kernel_rfl)
            replace q6 : f 39 = (.int .i64 x.i) := q6
            rw [q6] at hK ⊢
            have cX := n1 W hR
            go_simp
            refine cX.mono ?_
            rintro e w9 ⟨rfl, hb⟩
            exact hK _ _ hb rfl
          · refine mono.dutyT_of rfl ?_
            intro f W hR hO hD K hK
            have eL : mono.lit 153 f [] = ⟨#[f 0, f 1, f 2, f 3, f 4, f 5, f 6, f 7, f 8, f 9, f 10, f 11, f 12, f 13, f 14, f 15, f 16, f 17, f 18, f 19, f 20, f 21, f 22, f 23, f 24, f 25, f 26, f 27, f 28, f 29, f 30, f 31, f 32, f 33, f 34, f 35, f 36, f 37, f 38, f 39, f 40, f 41, f 42, f 43, f 44, f 45, f 46, f 47, f 48, f 49, f 50, f 51, f 52, f 53, f 54, f 55, f 56, f 57, f 58, f 59, f 60, f 61, f 62, f 63, f 64, f 65, f 66, f 67, f 68, f 69, f 70, f 71, f 72, f 73, f 74, f 75, f 76, f 77, f 78, f 79, f 80, f 81, f 82, f 83, f 84, f 85, f 86, f 87, f 88, f 89, f 90, f 91, f 92, f 93, f 94, f 95, f 96, f 97, f 98, f 99, f 100, f 101, f 102, f 103, f 104, f 105, f 106, f 107, f 108, f 109, f 110, f 111, f 112, f 113, f 114, f 115, f 116, f 117, f 118, f 119, f 120, f 121, f 122, f 123, f 124, f 125, f 126, f 127, f 128, f 129, f 130, f 131, f 132, f 133, f 134, f 135, f 136, f 137, f 138, f 139, f 140, f 141, f 142, f 143, f 144, f 145, f 146, f 147, f 148, f 149, f 150, f 151, f 152], []⟩ := rfl
            replace hK : ∀ v W', Below W.heap.size W W' → phRb x al kl PL gx alg clg K1 S1 S2 S3 8 v W' → K ((mono.lit 153 f []).put (some 41) v) W' := hK
            rw [eL] at hK ⊢
            simp only [Act.put, List.setIfInBounds_toArray, List.set_cons_succ, List.set_cons_zero] at hK
            have o6 : f 6 = (.pointer (some ⟨gx, 0, none⟩)) := hO 6 (by kernel_rfl)
            rw [o6] at hK ⊢
            go_simp
            exact hK _ _ (Below.refl _ _) rfl
          · refine mono.dutyT_of rfl ?_
            intro f W hR hO hD K hK
            have eL : mono.lit 153 f [] = ⟨#[f 0, f 1, f 2, f 3, f 4, f 5, f 6, f 7, f 8, f 9, f 10, f 11, f 12, f 13, f 14, f 15, f 16, f 17, f 18, f 19, f 20, f 21, f 22, f 23, f 24, f 25, f 26, f 27, f 28, f 29, f 30, f 31, f 32, f 33, f 34, f 35, f 36, f 37, f 38, f 39, f 40, f 41, f 42, f 43, f 44, f 45, f 46, f 47, f 48, f 49, f 50, f 51, f 52, f 53, f 54, f 55, f 56, f 57, f 58, f 59, f 60, f 61, f 62, f 63, f 64, f 65, f 66, f 67, f 68, f 69, f 70, f 71, f 72, f 73, f 74, f 75, f 76, f 77, f 78, f 79, f 80, f 81, f 82, f 83, f 84, f 85, f 86, f 87, f 88, f 89, f 90, f 91, f 92, f 93, f 94, f 95, f 96, f 97, f 98, f 99, f 100, f 101, f 102, f 103, f 104, f 105, f 106, f 107, f 108, f 109, f 110, f 111, f 112, f 113, f 114, f 115, f 116, f 117, f 118, f 119, f 120, f 121, f 122, f 123, f 124, f 125, f 126, f 127, f 128, f 129, f 130, f 131, f 132, f 133, f 134, f 135, f 136, f 137, f 138, f 139, f 140, f 141, f 142, f 143, f 144, f 145, f 146, f 147, f 148, f 149, f 150, f 151, f 152], []⟩ := rfl
            replace hK : ∀ v W', Below W.heap.size W W' → phRb x al kl PL gx alg clg K1 S1 S2 S3 9 v W' → K ((mono.lit 153 f []).put (some 42) v) W' := hK
            rw [eL] at hK ⊢
            simp only [Act.put, List.setIfInBounds_toArray, List.set_cons_succ, List.set_cons_zero] at hK
            have q8 := hD 8 41 (by kernel_rfl) (by kernel_rfl)
            replace q8 : f 41 = (.pointer (some ⟨gx, 1, none⟩)) := q8
            rw [q8] at hK ⊢
            obtain ⟨x0, x1, x2⟩ := hcel W hR
            go_simp
            exact hK _ _ (Below.refl _ _) rfl
          · refine mono.dutyT_of rfl ?_
            intro f W hR hO hD K hK
            have eL : mono.lit 153 f [] = ⟨#[f 0, f 1, f 2, f 3, f 4, f 5, f 6, f 7, f 8, f 9, f 10, f 11, f 12, f 13, f 14, f 15, f 16, f 17, f 18, f 19, f 20, f 21, f 22, f 23, f 24, f 25, f 26, f 27, f 28, f 29, f 30, f 31, f 32, f 33, f 34, f 35, f 36, f 37, f 38, f 39, f 40, f 41, f 42, f 43, f 44, f 45, f 46, f 47, f 48, f 49, f 50, f 51, f 52, f 53, f 54, f 55, f 56, f 57, f 58, f 59, f 60, f 61, f 62, f 63, f 64, f 65, f 66, f 67, f 68, f 69, f 70, f 71, f 72, f 73, f 74, f 75, f 76, f 77, f 78, f 79, f 80, f 81, f 82, f 83, f 84, f 85, f 86, f 87, f 88, f 89, f 90, f 91, f 92, f 93, f 94, f 95, f 96, f 97, f 98, f 99, f 100, f 101, f 102, f 103, f 104, f 105, f 106, f 107, f 108, f 109, f 110, f 111, f 112, f 113, f 114, f 115, f 116, f 117, f 118, f 119, f 120, f 121, f 122, f 123, f 124, f 125, f 126, f 127, f 128, f 129, f 130, f 131, f 132, f 133, f 134, f 135, f 136, f 137, f 138, f 139, f 140, f 141, f 142, f 143, f 144, f 145, f 146, f 147, f 148, f 149, f 150, f 151, f 152], []⟩ := rfl
            replace hK : ∀ v W', Below W.heap.size W W' → phRb x al kl PL gx alg clg K1 S1 S2 S3 10 v W' → K ((mono.lit 153 f []).put (some 43) v) W' := hK
            rw [eL] at hK ⊢
            simp only [Act.put, List.setIfInBounds_toArray, List.set_cons_succ, List.set_cons_zero] at hK
            have q9 := hD 9 42 (by kernel_rfl) (by kernel_rfl)
            replace q9 : f 42 = (.string (x.nm)) := q9
            rw [q9] at hK ⊢
            have cX := n2 W hR
            go_simp
            refine cX.mono ?_
            rintro e w9 ⟨rfl, hb⟩
            exact hK _ _ hb rfl
          · refine mono.dutyT_of rfl ?_
            intro f W hR hO hD K hK
            have eL : mono.lit 153 f [] = ⟨#[f 0, f 1, f 2, f 3, f 4, f 5, f 6, f 7, f 8, f 9, f 10, f 11, f 12, f 13, f 14, f 15, f 16, f 17, f 18, f 19, f 20, f 21, f 22, f 23, f 24, f 25, f 26, f 27, f 28, f 29, f 30, f 31, f 32, f 33, f 34, f 35, f 36, f 37, f 38, f 39, f 40, f 41, f 42, f 43, f 44, f 45, f 46, f 47, f 48, f 49, f 50, f 51, f 52, f 53, f 54, f 55, f 56, f 57, f 58, f 59, f 60, f 61, f 62, f 63, f 64, f 65, f 66, f 67, f 68, f 69, f 70, f 71, f 72, f 73, f 74, f 75, f 76, f 77, f 78, f 79, f 80, f 81, f 82, f 83, f 84, f 85, f 86, f 87, f 88, f 89, f 90, f 91, f 92, f 93, f 94, f 95, f 96, f 97, f 98, f 99, f 100, f 101, f 102, f 103, f 104, f 105, f 106, f 107, f 108, f 109, f 110, f 111, f 112, f 113, f 114, f 115, f 116, f 117, f 118, f 119, f 120, f 121, f 122, f 123, f 124, f 125, f 126, f 127, f 128, f 129, f 130, f 131, f 132, f 133, f 134, f 135, f 136, f 137, f 138, f 139, f 140, f 141, f 142, f 143, f 144, f 145, f 146, f 147, f 148, f 149, f 150, f 151, f 152], []⟩ := rfl
            replace hK : ∀ v W', Below W.heap.size W W' → phRb x al kl PL gx alg clg K1 S1 S2 S3 11 v W' → K ((mono.lit 153 f []).put (some 44) v) W' := hK
            rw [eL] at hK ⊢
            simp only [Act.put, List.setIfInBounds_toArray, List.set_cons_succ, List.set_cons_zero] at hK
            have q7 := hD 7 40 (by kernel_rfl) (by kernel_rfl)
            replace q7 : f 40 = (.string (S1)) := q7
            have q10 := hD 10 43 (by kernel_rfl) (by kernel_rfl)
            replace q10 : f 43 = (.string (S2)) := q10
            rw [q7, q10] at hK ⊢
            go_simp
            exact hK _ _ (Below.refl _ _) rfl
          · refine mono.dutyT_of rfl ?_
            intro f W hR hO hD K hK
            have eL : mono.lit 153 f [] = ⟨#[f 0, f 1, f 2, f 3, f 4, f 5, f 6, f 7, f 8, f 9, f 10, f 11, f 12, f 13, f 14, f 15, f 16, f 17, f 18, f 19, f 20, f 21, f 22, f 23, f 24, f 25, f 26, f 27, f 28, f 29, f 30, f 31, f 32, f 33, f 34, f 35, f 36, f 37, f 38, f 39, f 40, f 41, f 42, f 43, f 44, f 45, f 46, f 47, f 48, f 49, f 50, f 51, f 52, f 53, f 54, f 55, f 56, f 57, f 58, f 59, f 60, f 61, f 62, f 63, f 64, f 65, f 66, f 67, f 68, f 69, f 70, f 71, f 72, f 73, f 74, f 75, f 76, f 77, f 78, f 79, f 80, f 81, f 82, f 83, f 84, f 85, f 86, f 87, f 88, f 89, f 90, f 91, f 92, f 93, f 94, f 95, f 96, f 97, f 98, f 99, f 100, f 101, f 102, f 103, f 104, f 105, f 106, f 107, f 108, f 109, f 110, f 111, f 112, f 113, f 114, f 115, f 116, f 117, f 118, f 119, f 120, f 121, f 122, f 123, f 124, f 125, f 126, f 127, f 128, f 129, f 130, f 131, f 132, f 133, f 134, f 135, f 136, f 137, f 138, f 139, f 140, f 141, f 142, f 143, f 144, f 145, f 146, f 147, f 148, f 149, f 150, f 151, f 152], []⟩ := rfl
            replace hK : ∀ v W', Below W.heap.size W W' → phRb x al kl PL gx alg clg K1 S1 S2 S3 12 v W' → K ((mono.lit 153 f []).put (some 45) v) W' := hK
            rw [eL] at hK ⊢
            simp only [Act.put, List.setIfInBounds_toArray, List.set_cons_succ, List.set_cons_zero] at hK
            have o6 : f 6 = (.pointer (some ⟨gx, 0, none⟩)) := hO 6 (by kernel_rfl)
            rw [o6] at hK ⊢
            go_simp
            exact hK _ _ (Below.refl _ _) rfl
          · refine mono.dutyT_of rfl ?_
            intro f W hR hO hD K hK
            have eL : mono.lit 153 f [] = ⟨#[f 0, f 1, f 2, f 3, f 4, f 5, f 6, f 7, f 8, f 9, f 10, f 11, f 12, f 13, f 14, f 15, f 16, f 17, f 18, f 19, f 20, f 21, f 22, f 23, f 24, f 25, f 26, f 27, f 28, f 29, f 30, f 31, f 32, f 33, f 34, f 35, f 36, f 37, f 38, f 39, f 40, f 41, f 42, f 43, f 44, f 45, f 46, f 47, f 48, f 49, f 50, f 51, f 52, f 53, f 54, f 55, f 56, f 57, f 58, f 59, f 60, f 61, f 62, f 63, f 64, f 65, f 66, f 67, f 68, f 69, f 70, f 71, f 72, f 73, f 74, f 75, f 76, f 77, f 78, f 79, f 80, f 81, f 82, f 83, f 84, f 85, f 86, f 87, f 88, f 89, f 90, f 91, f 92, f 93, f 94, f 95, f 96, f 97, f 98, f 99, f 100, f 101, f 102, f 103, f 104, f 105, f 106, f 107, f 108, f 109, f 110, f 111, f 112, f 113, f 114, f 115, f 116, f 117, f 118, f 119, f 120, f 121, f 122, f 123, f 124, f 125, f 126, f 127, f 128, f 129, f 130, f 131, f 132, f 133, f 134, f 135, f 136, f 137, f 138, f 139, f 140, f 141, f 142, f 143, f 144, f 145, f 146, f 147, f 148, f 149, f 150, f 151, f 152], []⟩ := rfl
            replace hK : ∀ v W', Below W.heap.size W W' → phRb x al kl PL gx alg clg K1 S1 S2 S3 13 v W' → K ((mono.lit 153 f []).put (some 46) v) W' := hK
            rw [eL] at hK ⊢
            simp only [Act.put, List.setIfInBounds_toArray, List.set_cons_succ, List.set_cons_zero] at hK
            have q12 := hD 12 45 (by kernel_rfl) (by kernel_rfl)
            replace q12 : f 45 = (.pointer (some ⟨gx, 2, none⟩)) := q12
            rw [q12] at hK ⊢
            obtain ⟨x0, x1, x2⟩ := hcel W hR
            go_simp
            exact hK _ _ (Below.refl _ _) rfl
          · refine mono.dutyT_of rfl ?_
            intro f W hR hO hD K hK
            have eL : mono.lit 153 f [] = ⟨#[f 0, f 1, f 2, f 3, f 4, f 5, f 6, f 7, f 8, f 9, f 10, f 11, f 12, f 13, f 14, f 15, f 16, f 17, f 18, f 19, f 20, f 21, f 22, f 23, f 24, f 25, f 26, f 27, f 28, f 29, f 30, f 31, f 32, f 33, f 34, f 35, f 36, f 37, f 38, f 39, f 40, f 41, f 42, f 43, f 44, f 45, f 46, f 47, f 48, f 49, f 50, f 51, f 52, f 53, f 54, f 55, f 56, f 57, f 58, f 59, f 60, f 61, f 62, f 63, f 64, f 65, f 66, f 67, f 68, f 69, f 70, f 71, f 72, f 73, f 74, f 75, f 76, f 77, f 78, f 79, f 80, f 81, f 82, f 83, f 84, f 85, f 86, f 87, f 88, f 89, f 90, f 91, f 92, f 93, f 94, f 95, f 96, f 97, f 98, f 99, f 100, f 101, f 102, f 103, f 104, f 105, f 106, f 107, f 108, f 109, f 110, f 111, f 112, f 113, f 114, f 115, f 116, f 117, f 118, f 119, f 120, f 121, f 122, f 123, f 124, f 125, f 126, f 127, f 128, f 129, f 130, f 131, f 132, f 133, f 134, f 135, f 136, f 137, f 138, f 139, f 140, f 141, f 142, f 143, f 144, f 145, f 146, f 147, f 148, f 149, f 150, f 151, f 152], []⟩ := rfl
            replace hK : ∀ v W', Below W.heap.size W W' → phRb x al kl PL gx alg clg K1 S1 S2 S3 14 v W' → K ((mono.lit 153 f []).put (some 47) v) W' := hK
            rw [eL] at hK ⊢
            simp only [Act.put, List.setIfInBounds_toArray, List.set_cons_succ, List.set_cons_zero] at hK
            have q13 := hD 13 46 (by kernel_rfl) (by kernel_rfl)
            replace q13 : f 46 = (.slice alg x.lg.length clg) := q13
            rw [q13] at hK ⊢
            have cX := n3 W hR
            go_simp
            refine cX.mono ?_
            rintro e w9 ⟨rfl, hb⟩
            exact hK _ _ hb rfl
          · refine mono.dutyT_of rfl ?_
            intro f W hR hO hD K hK
            have eL : mono.lit 153 f [] = ⟨#[f 0, f 1, f 2, f 3, f 4, f 5, f 6, f 7, f 8, f 9, f 10, f 11, f 12, f 13, f 14, f 15, f 16, f 17, f 18, f 19, f 20, f 21, f 22, f 23, f 24, f 25, f 26, f 27, f 28, f 29, f 30, f 31, f 32, f 33, f 34, f 35, f 36, f 37, f 38, f 39, f 40, f 41, f 42, f 43, f 44, f 45, f 46, f 47, f 48, f 49, f 50, f 51, f 52, f 53, f 54, f 55, f 56, f 57, f 58, f 59, f 60, f 61, f 62, f 63, f 64, f 65, f 66, f 67, f 68, f 69, f 70, f 71, f 72, f 73, f 74, f 75, f 76, f 77, f 78, f 79, f 80, f 81, f 82, f 83, f 84, f 85, f 86, f 87, f 88, f 89, f 90, f 91, f 92, f 93, f 94, f 95, f 96, f 97, f 98, f 99, f 100, f 101, f 102, f 103, f 104, f 105, f 106, f 107, f 108, f 109, f 110, f 111, f 112, f 113, f 114, f 115, f 116, f 117, f 118, f 119, f 120, f 121, f 122, f 123, f 124, f 125, f 126, f 127, f 128, f 129, f 130, f 131, f 132, f 133, f 134, f 135, f 136, f 137, f 138, f 139, f 140, f 141, f 142, f 143, f 144, f 145, f 146, f 147, f 148, f 149, f 150, f 151, f 152], []⟩ := rfl
            replace hK : ∀ v W', Below W.heap.size W W' → phRb x al kl PL gx alg clg K1 S1 S2 S3 15 v W' → K ((mono.lit 153 f []).put (some 48) v) W' := hK
            rw [eL] at hK ⊢
            simp only [Act.put, List.setIfInBounds_toArray, List.set_cons_succ, List.set_cons_zero] at hK
            have q11 := hD 11 44 (by kernel_rfl) (by kernel_rfl)
            replace q11 : f 44 = (.string (S1 ++ S2)) := q11
            have q14 := hD 14 47 (by kernel_rfl) (by kernel_rfl)
            replace q14 : f 47 = (.string (S3)) := q14
            rw [q11, q14] at hK ⊢
            go_simp
            exact hK _ _ (Below.refl _ _) rfl
          · refine mono.dutyT_of rfl ?_
            intro f W hR hO hD K hK
            have eL : mono.lit 153 f [] = ⟨#[f 0, f 1, f 2, f 3, f 4, f 5, f 6, f 7, f 8, f 9, f 10, f 11, f 12, f 13, f 14, f 15, f 16, f 17, f 18, f 19, f 20, f 21, f 22, f 23, f 24, f 25, f 26, f 27, f 28, f 29, f 30, f 31, f 32, f 33, f 34, f 35, f 36, f 37, f 38, f 39, f 40, f 41, f 42, f 43, f 44, f 45, f 46, f 47, f 48, f 49, f 50, f 51, f 52, f 53, f 54, f 55, f 56, f 57, f 58, f 59, f 60, f 61, f 62, f 63, f 64, f 65, f 66, f 67, f 68, f 69, f 70, f 71, f 72, f 73, f 74, f 75, f 76, f 77, f 78, f 79, f 80, f 81, f 82, f 83, f 84, f 85, f 86, f 87, f 88, f 89, f 90, f 91, f 92, f 93, f 94, f 95, f 96, f 97, f 98, f 99, f 100, f 101, f 102, f 103, f 104, f 105, f 106, f 107, f 108, f 109, f 110, f 111, f 112, f 113, f 114, f 115, f 116, f 117, f 118, f 119, f 120, f 121, f 122, f 123, f 124, f 125, f 126, f 127, f 128, f 129, f 130, f 131, f 132, f 133, f 134, f 135, f 136, f 137, f 138, f 139, f 140, f 141, f 142, f 143, f 144, f 145, f 146, f 147, f 148, f 149, f 150, f 151, f 152], []⟩ := rfl
            replace hK : ∀ v W', Below W.heap.size W W' → phRb x al kl PL gx alg clg K1 S1 S2 S3 16 v W' → K ((mono.lit 153 f []).put (some 49) v) W' := hK
            rw [eL] at hK ⊢
            simp only [Act.put, List.setIfInBounds_toArray, List.set_cons_succ, List.set_cons_zero] at hK
            have q4 := hD 4 37 (by kernel_rfl) (by kernel_rfl)
            replace q4 : f 37 = (.string (⟨#[98]⟩ ++ K1)) := q4
            have q15 := hD 15 48 (by kernel_rfl) (by kernel_rfl)
            replace q15 : f 48 = (.string (S1 ++ S2 ++ S3)) := q15
            rw [q4, q15] at hK ⊢
            go_simp
            exact hK _ _ (Below.refl _ _) rfl
          · refine mono.dutyT_of rfl ?_
            intro f W hR hO hD K hK
            have eL : mono.lit 153 f [] = ⟨#[f 0, f 1, f 2, f 3, f 4, f 5, f 6, f 7, f 8, f 9, f 10, f 11, f 12, f 13, f 14, f 15, f 16, f 17, f 18, f 19, f 20, f 21, f 22, f 23, f 24, f 25, f 26, f 27, f 28, f 29, f 30, f 31, f 32, f 33, f 34, f 35, f 36, f 37, f 38, f 39, f 40, f 41, f 42, f 43, f 44, f 45, f 46, f 47, f 48, f 49, f 50, f 51, f 52, f 53, f 54, f 55, f 56, f 57, f 58, f 59, f 60, f 61, f 62, f 63, f 64, f 65, f 66, f 67, f 68, f 69, f 70, f 71, f 72, f 73, f 74, f 75, f 76, f 77, f 78, f 79, f 80, f 81, f 82, f 83, f 84, f 85, f 86, f 87, f 88, f 89, f 90, f 91, f 92, f 93, f 94, f 95, f 96, f 97, f 98, f 99, f 100, f 101, f 102, f 103, f 104, f 105, f 106, f 107, f 108, f 109, f 110, f 111, f 112, f 113, f 114, f 115, f 116, f 117, f 118, f 119, f 120, f 121, f 122, f 123, f 124, f 125, f 126, f 127, f 128, f 129, f 130, f 131, f 132, f 133, f 134, f 135, f 136, f 137, f 138, f 139, f 140, f 141, f 142, f 143, f 144, f 145, f 146, f 147, f 148, f 149, f 150, f 151, f 152], []⟩ := rfl
            replace hK : ∀ v W', Below W.heap.size W W' → phRb x al kl PL gx alg clg K1 S1 S2 S3 17 v W' → K ((mono.lit 153 f []).put (some 50) v) W' := hK
            rw [eL] at hK ⊢
            simp only [Act.put, List.setIfInBounds_toArray, List.set_cons_succ, List.set_cons_zero] at hK
            have q16 := hD 16 49 (by kernel_rfl) (by kernel_rfl)
            replace q16 : f 49 = (.agg #[.string (⟨#[98]⟩ ++ K1), .string (S1 ++ S2 ++ S3)]) := q16
            rw [q16] at hK ⊢
            go_simp
            exact hK _ _ (alloc_bR W _) ⟨_, rfl, heap_alloc_new W _⟩
          · intro f W hB hO hD
            have r0 := hO 0 (by kernel_rfl)
            have r1 := hO 1 (by kernel_rfl)
            have r2 := hO 2 (by kernel_rfl)
            have r3 := hO 3 (by kernel_rfl)
            have r4 := hO 4 (by kernel_rfl)
            have r5 := hO 5 (by kernel_rfl)
            have r6 := hO 6 (by kernel_rfl)
            have r7 := hO 7 (by kernel_rfl)
            have r8 := hO 8 (by kernel_rfl)
            have r9 := hO 9 (by kernel_rfl)
            have r10 := hO 10 (by kernel_rfl)
            have r11 := hO 11 (by kernel_rfl)
            have r12 := hO 12 (by kernel_rfl)
            have r13 := hO 13 (by kernel_rfl)
            have r14 := hO 14 (by kernel_rfl)
            have r15 := hO 15 (by kernel_rfl)
            have r16 := hO 16 (by kernel_rfl)
            have r17 := hO 17 (by kernel_rfl)
            have r18 := hO 18 (by kernel_rfl)
            have r19 := hO 19 (by kernel_rfl)
            have r20 := hO 20 (by kernel_rfl)
            have r21 := hO 21 (by kernel_rfl)
            have r22 := hO 22 (by kernel_rfl)
            have r23 := hO 23 (by kernel_rfl)
            have r24 := hO 24 (by kernel_rfl)
            have r25 := hO 25 (by kernel_rfl)
            have r26 := hO 26 (by kernel_rfl)
            have r27 := hO 27 (by kernel_rfl)
            have r28 := hO 28 (by kernel_rfl)
            have r29 := hO 29 (by kernel_rfl)
            have r30 := hO 30 (by kernel_rfl)
            have r31 := hO 31 (by kernel_rfl)
            have r32 := hO 32 (by kernel_rfl)
            have r33 := hD 0 33 (by decide) (by kernel_rfl)
            replace r33 : f 33 = (.slice al PL.length kl) := r33
            have r50 := hD 17 50 (by decide) (by kernel_rfl)
            obtain ⟨gs, es, hgs⟩ := r50
            have r51 := hO 51 (by kernel_rfl)
            have r52 := hO 52 (by kernel_rfl)
            have r53 := hO 53 (by kernel_rfl)
            have r54 := hO 54 (by kernel_rfl)
            have r55 := hO 55 (by kernel_rfl)
            have r56 := hO 56 (by kernel_rfl)
            have r57 := hO 57 (by kernel_rfl)
            have r58 := hO 58 (by kernel_rfl)
            have r59 := hO 59 (by kernel_rfl)
            have r60 := hO 60 (by kernel_rfl)
            have r61 := hO 61 (by kernel_rfl)
            have r62 := hO 62 (by kernel_rfl)
            have r63 := hO 63 (by kernel_rfl)
            have r64 := hO 64 (by kernel_rfl)
            have r65 := hO 65 (by kernel_rfl)
            have r66 := hO 66 (by kernel_rfl)
            have r67 := hO 67 (by kernel_rfl)
            have r68 := hO 68 (by kernel_rfl)
            have r69 := hO 69 (by kernel_rfl)
            have r70 := hO 70 (by kernel_rfl)
            have r71 := hO 71 (by kernel_rfl)
            have r72 := hO 72 (by kernel_rfl)
            have r73 := hO 73 (by kernel_rfl)
            have r74 := hO 74 (by kernel_rfl)
            have r75 := hO 75 (by kernel_rfl)
            have r76 := hO 76 (by kernel_rfl)
            have r77 := hO 77 (by kernel_rfl)
            have r78 := hO 78 (by kernel_rfl)
            have r79 := hO 79 (by kernel_rfl)
            have r80 := hO 80 (by kernel_rfl)
            have r81 := hO 81 (by kernel_rfl)
            have r82 := hO 82 (by kernel_rfl)
            have r83 := hO 83 (by kernel_rfl)
            have r84 := hO 84 (by kernel_rfl)
            have r85 := hO 85 (by kernel_rfl)
            have r86 := hO 86 (by kernel_rfl)
            have r87 := hO 87 (by kernel_rfl)
            have r88 := hO 88 (by kernel_rfl)
            have r89 := hO 89 (by kernel_rfl)
            have r90 := hO 90 (by kernel_rfl)
            have r91 := hO 91 (by kernel_rfl)
            have r92 := hO 92 (by kernel_rfl)
            have r93 := hO 93 (by kernel_rfl)
            have r94 := hO 94 (by kernel_rfl)
            have r95 := hO 95 (by kernel_rfl)
            have r96 := hO 96 (by kernel_rfl)
            have r97 := hO 97 (by kernel_rfl)
            have r98 := hO 98 (by kernel_rfl)
            have r99 := hO 99 (by kernel_rfl)
            have r100 := hO 100 (by kernel_rfl)
            have r101 := hO 101 (by kernel_rfl)
            have r102 := hO 102 (by kernel_rfl)
            have r103 := hO 103 (by kernel_rfl)
            have r104 := hO 104 (by kernel_rfl)
            have r105 := hO 105 (by kernel_rfl)
            have r106 := hO 106 (by kernel_rfl)
            have r107 := hO 107 (by kernel_rfl)
            have r108 := hO 108 (by kernel_rfl)
            have r109 := hO 109 (by kernel_rfl)
            have r110 := hO 110 (by kernel_rfl)
            have r111 := hO 111 (by kernel_rfl)
            have r112 := hO 112 (by kernel_rfl)
            have r113 := hO 113 (by kernel_rfl)
            have r114 := hO 114 (by kernel_rfl)
            have r115 := hO 115 (by kernel_rfl)
            have r116 := hO 116 (by kernel_rfl)
            have r117 := hO 117 (by kernel_rfl)
            have r118 := hO 118 (by kernel_rfl)
            have r119 := hO 119 (by kernel_rfl)
            have r120 := hO 120 (by kernel_rfl)
            have r121 := hO 121 (by kernel_rfl)
            have r122 := hO 122 (by kernel_rfl)
            have r123 := hO 123 (by kernel_rfl)
            have r124 := hO 124 (by kernel_rfl)
            have r125 := hO 125 (by kernel_rfl)
            have r126 := hO 126 (by kernel_rfl)
            have r127 := hO 127 (by kernel_rfl)
            have r128 := hO 128 (by kernel_rfl)
            have r129 := hO 129 (by kernel_rfl)
            have r130 := hO 130 (by kernel_rfl)
            have r131 := hO 131 (by kernel_rfl)
            have r132 := hO 132 (by kernel_rfl)
            have r133 := hO 133 (by kernel_rfl)
            have r134 := hO 134 (by kernel_rfl)
            have r135 := hO 135 (by kernel_rfl)
            have r136 := hO 136 (by kernel_rfl)
            have r137 := hO 137 (by kernel_rfl)
            have r138 := hO 138 (by kernel_rfl)
            have r139 := hO 139 (by kernel_rfl)
            have r140 := hO 140 (by kernel_rfl)
            have r141 := hO 141 (by kernel_rfl)
            have r142 := hO 142 (by kernel_rfl)
            have r143 := hO 143 (by kernel_rfl)
            have r144 := hO 144 (by kernel_rfl)
            have r145 := hO 145 (by kernel_rfl)
            have r146 := hO 146 (by kernel_rfl)
            have r147 := hO 147 (by kernel_rfl)
            have r148 := hO 148 (by kernel_rfl)
            have r149 := hO 149 (by kernel_rfl)
            have r150 := hO 150 (by kernel_rfl)
            have r151 := hO 151 (by kernel_rfl)
            have r152 := hO 152 (by kernel_rfl)
            have eL : mono.lit 153 f [] = ⟨#[f 0, f 1, f 2, f 3, f 4, f 5, f 6, f 7, f 8, f 9, f 10, f 11, f 12, f 13, f 14, f 15, f 16, f 17, f 18, f 19, f 20, f 21, f 22, f 23, f 24, f 25, f 26, f 27, f 28, f 29, f 30, f 31, f 32, f 33, f 34, f 35, f 36, f 37, f 38, f 39, f 40, f 41, f 42, f 43, f 44, f 45, f 46, f 47, f 48, f 49, f 50, f 51, f 52, f 53, f 54, f 55, f 56, f 57, f 58, f 59, f 60, f 61, f 62, f 63, f 64, f 65, f 66, f 67, f 68, f 69, f 70, f 71, f 72, f 73, f 74, f 75, f 76, f 77, f 78, f 79, f 80, f 81, f 82, f 83, f 84, f 85, f 86, f 87, f 88, f 89, f 90, f 91, f 92, f 93, f 94, f 95, f 96, f 97, f 98, f 99, f 100, f 101, f 102, f 103, f 104, f 105, f 106, f 107, f 108, f 109, f 110, f 111, f 112, f 113, f 114, f 115, f 116, f 117, f 118, f 119, f 120, f 121, f 122, f 123, f 124, f 125, f 126, f 127, f 128, f 129, f 130, f 131, f 132, f 133, f 134, f 135, f 136, f 137, f 138, f 139, f 140, f 141, f 142, f 143, f 144, f 145, f 146, f 147, f 148, f 149, f 150, f 151, f 152], []⟩ := rfl
            rw [eL, r0, r1, r2, r3, r4, r5, r6, r7, r8, r9, r10, r11, r12, r13, r14, r15, r16, r17, r18, r19, r20, r21, r22, r23, r24, r25, r26, r27, r28, r29, r30, r31, r32, r33, es, r51, r52, r53, r54, r55, r56, r57, r58, r59, r60, r61, r62, r63, r64, r65, r66, r67, r68, r69, r70, r71, r72, r73, r74, r75, r76, r77, r78, r79, r80, r81, r82, r83, r84, r85, r86, r87, r88, r89, r90, r91, r92, r93, r94, r95, r96, r97, r98, r99, r100, r101, r102, r103, r104, r105, r106, r107, r108, r109, r110, r111, r112, r113, r114, r115, r116, r117, r118, r119, r120, r121, r122, r123, r124, r125, r126, r127, r128, r129, r130, r131, r132, r133, r134, r135, r136, r137, r138, r139, r140, r141, r142, r143, r144, r145, r146, r147, r148, r149, r150, r151, r152]
            clear eL hO hD r0 r1 r2 r3 r4 r5 r6 r7 r8 r9 r10 r11 r12 r13 r14 r15 r16 r17 r18 r19 r20 r21 r22 r23 r24 r25 r26 r27 r28 r29 r30 r31 r32 r33 r51 r52 r53 r54 r55 r56 r57 r58 r59 r60 r61 r62 r63 r64 r65 r66 r67 r68 r69 r70 r71 r72 r73 r74 r75 r76 r77 r78 r79 r80 r81 r82 r83 r84 r85 r86 r87 r88 r89 r90 r91 r92 r93 r94 r95 r96 r97 r98 r99 r100 r101 r102 r103 r104 r105 r106 r107 r108 r109 r110 r111 r112 r113 r114 r115 r116 r117 r118 r119 r120 r121 r122 r123 r124 r125 r126 r127 r128 r129 r130 r131 r132 r133 r134 r135 r136 r137 r138 r139 r140 r141 r142 r143 r144 r145 r146 r147 r148 r149 r150 r151 r152
            change wpList _ _ _ (_ :: _ :: []) _ _
            have hBD := hwd.trans (hB.mono hwd.size)
            have hoD := own_belowG (own_belowG ho hDr) hB
            have hoE := hoD
            have hbE := hBD
            have hsE := hbE.size
            have hmn := many_at hgs
            go_wp2_with (at_builtin; refine wpList_append_own _ rfl (.tmp 33) (.tmp 50) 28 rfl w3.heap.size 44 i0 (.agg #[.string ⟨#[]⟩, .string ⟨#[]⟩]) 2 32 Try.underlying28 hin hz0 hz1 hz2 rfl (by decide) _ PL.length _ rfl hoE ⟨gs, 0, none⟩ 1 1 [.string (⟨#[98]⟩ ++ K1), .string (S1 ++ S2 ++ S3)] rfl rfl hmn (two_str _ _) (by unfold maxLen; omega) (by omega) hsE ?_; intro v6 w6 ho6 hg6 _)
            have ho7 : w6.ownsRow w3.heap.size 44 2 v6 (PL ++ [brP x]).length (pcs (PL ++ [brP x])) := by
              rw [List.length_append, pcs_app, pcs_one, ← HK.out, ← HV.out]
              exact ho6
            have hb7 := hbE.grown hg6 hsE (fun j hj => (hoE.lt j hj).1)
            exact ⟨⟨k + 1, PL ++ [brP x], by omega, by go_num, HP2, by simp; omega, HA3, ho7, hb7⟩, by simp [Go.RowKit.intOf]; omega⟩
      · have hlt' : ¬ (k : Int) < (bs.length : Int) := by omega
        rw [List.take_of_length_le (by omega)] at HP HA
        have HAb := HA
        have HPb : Hid (PL = bs.map brP ++ (cs.take 0).map coP) := by show _ = _; rw [HP.out]; simp
        clear hbs HP HA
        go_wp2_with fail
        clear x0 x1 x2 x3 x4
        go_loopw [4, 7] (fun lv i wr => ∃ (k : Nat) (PL : List PaD), k ≤ cs.length ∧ i = .int .i64 (k : Int) ∧ Hid (PL = bs.map brP ++ (cs.take k).map coP) ∧ PL.length ≤ 320 ∧ Hid (∀ x ∈ cs.take k, x.n ≤ 65535) ∧ wr.ownsRow w3.heap.size 44 2 lv PL.length (pcs PL) ∧ Below w3.heap.size w3 wr) (fun _ i _ => cs.length - (Go.RowKit.intOf i).toNat)
        case atStart => exact ⟨0, PL, by omega, rfl, HPb, by omega, (fun x hx => by simp at hx), ho, hbl⟩
        case round =>
          clear HPb hPl ho hbl hb3r hBw hlt hlt' hk
          obtain ⟨k, PL, hk, rfl, HP, hPl, HA, ho, hbl⟩ := hrel
          obtain ⟨al, kl, rfl⟩ := own_form ho
          have hb3r := hb3.trans (hbl.mono hb3.size)
          obtain ⟨x0, x1, x2, x3, x4⟩ := hX wr hb3r
          have hBw := hB3.trans (hbl.mono hB3.size)
          by_cases hlt : k < cs.length
          · have hlt' : (k : Int) < (cs.length : Int) := by omega
            obtain ⟨g, off, pv, dv, ov, rfl, hg, ⟨c0, c1, c2, c3, c4, c5⟩, s0, s1, s2⟩ := hcs k cs[k] (by simp [hlt])
            rw [← hBw.cell (p := ⟨g, _, none⟩) hg] at c0 c1 c2 c3 c4 c5
            have hxo := qcs cs[k] (List.getElem_mem hlt)
            have hft := hF.cs cs[k] (List.getElem_mem hlt)
            have hsm := hS cs[k] (List.getElem_mem hlt)
            have hlp : PL.length ≤ 319 := by
              have := HP.out
              rw [this, List.length_append, List.length_map, List.length_map, List.length_take]
              omega
            have HP2 : Hid (PL ++ [coP cs[k]] = bs.map brP ++ (cs.take (k + 1)).map coP) := by show _ = _; rw [HP.out, map_take_succ coP cs k hlt, List.append_assoc]
            have HA2 : cs[k].n ≤ 65535 → Hid (∀ x ∈ cs.take (k + 1), x.n ≤ 65535) := fun h x hx => by
              rw [List.take_succ_eq_append_getElem hlt] at hx
              rcases List.mem_append.1 hx with h1 | h1
              · exact HA.out x h1
              · rw [List.mem_singleton.1 h1]; exact h
            have HAn : ¬ cs[k].n ≤ 65535 → (cs.all (fun x => decide (x.n ≤ 65535)) && bs.all (fun x => decide (x.i ≤ 65535))) = false := fun h => by
              rw [Bool.and_eq_false_iff]
              exact .inl (List.all_eq_false.2 ⟨cs[k], List.getElem_mem hlt, by simpa using h⟩)
            generalize cs[k] = x at *
            obtain ⟨alg, clg, rfl⟩ := rdi_len s0
            obtain ⟨ad, kd, ed, -⟩ := id s1
            subst ed
            obtain ⟨ae, ke, ee, -⟩ := id s2
            subst ee
            have hal4 := alloc_bR wr (.cells #[.int .i64 x.n, .slice alg x.ps.length clg, .slice ad x.d.length kd, .slice ae x.o.length ke, .int .i64 x.c, .int .i64 x.s] 48)
            have hnw4 := heap_alloc_new wr (.cells #[.int .i64 x.n, .slice alg x.ps.length clg, .slice ad x.d.length kd, .slice ae x.o.length ke, .int .i64 x.c, .int .i64 x.s] 48)
            have hB4 := hBw.trans (hal4.mono hBw.size)
            have ho4 := own_belowG ho hal4
            have hbl4 := hbl.trans (hal4.mono hbl.size)
            generalize hwa : wr.alloc (.cells #[.int .i64 x.n, .slice alg x.ps.length clg, .slice ad x.d.length kd, .slice ae x.o.length ke, .int .i64 x.c, .int .i64 x.s] 48) = wa at *
            have hcl0 : ∀ W, Below wa.heap.size wa W → W.cell? ⟨wr.heap.size, 0, none⟩ = some (.int .i64 x.n) ∧ W.cell? ⟨wr.heap.size, 1, none⟩ = some (.slice alg x.ps.length clg) ∧ W.cell? ⟨wr.heap.size, 2, none⟩ = some (.slice ad x.d.length kd) ∧ W.cell? ⟨wr.heap.size, 3, none⟩ = some (.slice ae x.o.length ke) ∧ W.cell? ⟨wr.heap.size, 4, none⟩ = some (.int .i64 x.c) ∧ W.cell? ⟨wr.heap.size, 5, none⟩ = some (.int .i64 x.s) := fun W h => by
              have q := fun j => cell_of_row W wr.heap.size j _ _ (0, 0) ((h.block _ (heap_lt hnw4)).trans hnw4)
              exact ⟨q 0, q 1, q 2, q 3, q 4, q 5⟩
            obtain ⟨m0, m1, m2, m3, m4, m5⟩ := hcl0 wa (Below.refl _ _)
            by_cases hbig : x.n > 65535
            · have e := HRn (by rw [hfr, HAn (by omega)])
              subst e
              clear HRn HRy hfr HP HA HP2 HA2 HAn hnw4 hcs hus HAb
              go_wp2_with fail
              go_ret2
              exact ⟨_, rfl, World.ownsRow_nil _ _ _ _, hB4⟩
            · have HA3 := HA2 (by omega)
              clear HA2 HAn HP HA
              obtain ⟨qq1, qq2, qq3, qq4, qq5⟩ := coF_facts hxo.2
              have hw65 : ¬ x.n > 65535 := hbig
              have cD := refEncode_any (.slice ad x.d.length kd) x.d wa (s1.below hB4) hft.dl hsm.1
              have cO := fun W (h : Below wa.heap.size wa W) => refEncode_any (.slice ae x.o.length ke) x.o W (s2.below (hB4.trans (h.mono hB4.size))) hft.ol hsm.2
              have d1 := enc_sz hft.di
              have d2 := enc_sz hft.oi
              obtain ⟨D1, HD1⟩ : ∃ s, Hid (s = (encR x.d).1) := ⟨_, rfl⟩
              obtain ⟨D2, HD2⟩ : ∃ s, Hid (s = (encR x.o).1) := ⟨_, rfl⟩
              rw [← HD1.out] at cD d1
              rw [← HD2.out] at cO d2
              obtain ⟨K1, HK1⟩ : ∃ s, Hid (s = mk [UInt8.ofNat (x.n.toNat / 256), UInt8.ofNat x.n.toNat]) := ⟨_, rfl⟩
              obtain ⟨S1, HS1⟩ : ∃ s, Hid (s = mk (numB x.n.toNat)) := ⟨_, rfl⟩
              obtain ⟨S2, HS2⟩ : ∃ s, Hid (s = mk (nmB (x.ps.length :: x.ps.map Int.toNat))) := ⟨_, rfl⟩
              obtain ⟨S3, HS3⟩ : ∃ s, Hid (s = (pk.textR D1).1) := ⟨_, rfl⟩
              obtain ⟨S4, HS4⟩ : ∃ s, Hid (s = (pk.textR D2).1) := ⟨_, rfl⟩
              obtain ⟨S5, HS5⟩ : ∃ s, Hid (s = mk (numB x.c.toNat)) := ⟨_, rfl⟩
              obtain ⟨S6, HS6⟩ : ∃ s, Hid (s = mk (numB x.s.toNat)) := ⟨_, rfl⟩
              have HK : Hid (⟨#[99]⟩ ++ K1 = (coP x).k) := by show _ = _; rw [HK1.out]; exact mk_appR [99] _
              have HV : Hid (S1 ++ S2 ++ S3 ++ S4 ++ S5 ++ S6 = (coP x).v) := by
                show _ = _
                rw [HS1.out, HS2.out, HS3.out, HS4.out, HS5.out, HS6.out, tx_mk, tx_mk, HD1.out, HD2.out, mk_appR, mk_appR, mk_appR, mk_appR, mk_appR]
                unfold coP
                congr 1
                simp [txsR, dfsR, nmB]
              have z0 : K1.size ≤ 10 := by rw [HK1.out, mk_size]; simp
              have z1 : S1.size ≤ 10 := by rw [HS1.out, mk_size]; exact numB_len
              have z2 : S2.size ≤ 10000010 := by rw [HS2.out, mk_size]; have := nmB_len (x.ps.length :: x.ps.map Int.toNat); have := qq1.1; simp only [List.length_cons, List.length_map] at *; omega
              have z3 : S3.size ≤ 20020 := by rw [HS3.out]; exact textR_lenR D1
              have z4 : S4.size ≤ 20020 := by rw [HS4.out]; exact textR_lenR D2
              have z5 : S5.size ≤ 10 := by rw [HS5.out, mk_size]; exact numB_len
              have z6 : S6.size ≤ 10 := by rw [HS6.out, mk_size]; exact numB_len
              have y0 : ¬ 9223372036854775807 < 1 + K1.size := by omega
              have y1 : ¬ 9223372036854775807 < S1.size + S2.size := by omega
              have y2 : ¬ 9223372036854775807 < S1.size + S2.size + S3.size := by omega
              have y3 : ¬ 9223372036854775807 < S1.size + S2.size + S3.size + S4.size := by omega
              have y4 : ¬ 9223372036854775807 < S1.size + S2.size + S3.size + S4.size + S5.size := by omega
              have y5 : ¬ 9223372036854775807 < S1.size + S2.size + S3.size + S4.size + S5.size + S6.size := by omega
              go_wp2_with fail
              refine cD.mono ?_
              rintro e w5 ⟨rfl, hb5⟩
              have cO5 := cO w5 hb5
              clear m0 m1 m2 m3 m4 m5 c0 c1 c2 c3 c4 c5 x0 x1 x2 x3 x4 cD cO hwa
              obtain ⟨m0, m1, m2, m3, m4, m5⟩ := hcl0 w5 hb5
              go_wp2_with fail
              refine cO5.mono ?_
              rintro e w6' ⟨rfl, hb6'⟩
              have hb6 := hb5.trans (hb6'.mono hb5.size)
              clear m0 m1 m2 m3 m4 m5 cO5
              have hDr : Below w6'.heap.size w6' w6'.drew := Below.drew (Below.refl _ _)
              have hbD := hb6.trans (hDr.mono hb6.size)
              have hcel : ∀ W, Below w6'.drew.heap.size w6'.drew W → W.cell? ⟨wr.heap.size, 0, none⟩ = some (.int .i64 x.n) ∧ W.cell? ⟨wr.heap.size, 1, none⟩ = some (.slice alg x.ps.length clg) ∧ W.cell? ⟨wr.heap.size, 2, none⟩ = some (.slice ad x.d.length kd) ∧ W.cell? ⟨wr.heap.size, 3, none⟩ = some (.slice ae x.o.length ke) ∧ W.cell? ⟨wr.heap.size, 4, none⟩ = some (.int .i64 x.c) ∧ W.cell? ⟨wr.heap.size, 5, none⟩ = some (.int .i64 x.s) := fun W h => hcl0 W (hbD.trans (h.mono hbD.size))
              have n0 := fun W (_ : Below w6'.drew.heap.size w6'.drew W) => two15_any x.n W (by omega) (by omega)
              have n1 := fun W (_ : Below w6'.drew.heap.size w6'.drew W) => num15_any x.n W (by omega) (by omega)
              have n2 := fun W (h : Below w6'.drew.heap.size w6'.drew W) => numbers15_any (.slice alg x.ps.length clg) x.ps W (s0.below ((hB4.trans (hbD.mono hB4.size)).trans (h.mono (Nat.le_trans hB4.size hbD.size)))) qq1
              have n3 := fun W (_ : Below w6'.drew.heap.size w6'.drew W) => text15_any D1 W (by unfold maxLen; omega)
              have n4 := fun W (_ : Below w6'.drew.heap.size w6'.drew W) => text15_any D2 W (by unfold maxLen; omega)
              have n5 := fun W (_ : Below w6'.drew.heap.size w6'.drew W) => num15_any x.c W (by omega) (by omega)
              have n6 := fun W (_ : Below w6'.drew.heap.size w6'.drew W) => num15_any x.s W (by omega) (by omega)
              rw [← HK1.out] at n0
              rw [← HS1.out] at n1
              rw [← HS2.out] at n2
              rw [← HS3.out] at n3
              rw [← HS4.out] at n4
              rw [← HS5.out] at n5
              rw [← HS6.out] at n6
              have hwd0 := hbl4.trans (hb6.mono hbl4.size)
              have hwd := hwd0.trans (hDr.mono hwd0.size)
              have ho6 := own_belowG ho4 hb6
              clear hcs hus hnw4 ho ho4 hcl0
              have ho := ho6
              clear ho6
              go_upto_region 19 with fail
              generalize wr.heap.size = gx at *
              refine mono.region_monoT (phRc x al kl PL gx alg clg D1 D2 K1 S1 S2 S3 S4 S5 S6) 28 153 [] [0, 1, 2, 3, 4, 5, 6, 7, 8, 9, 10, 11, 12, 13, 14, 15, 16, 17, 18, 19, 20, 21, 22, 23, 24, 25, 26, 27] (by kernel_rfl) rfl rfl (by kernel_rfl) (by kernel_rfl) (by kernel_rfl) (by kernel_rfl) (by kernel_rfl) (by kernel_rfl) phRc_stays (.cons ?_ (.cons ?_ (.cons ?_ (.cons ?_ (.cons ?_ (.cons ?_ (.cons ?_ (.cons ?_ (.cons ?_ (.cons ?_ (.cons ?_ (.cons ?_ (.cons ?_ (.cons ?_ (.cons ?_ (.cons ?_ (.cons ?_ (.cons ?_ (.cons ?_ (.cons ?_ (.cons ?_ (.cons ?_ (.cons ?_ (.cons ?_ (.cons ?_ (.cons ?_ (.cons ?_ (.cons ?_ (.nil))))))))))))))))))))))))))))) ?_
              · refine mono.dutyT_of rfl ?_
                intro f W hR hO hD K hK
                have eL : mono.lit 153 f [] = ⟨#[f 0, f 1, f 2, f 3, f 4, f 5, f 6, f 7, f 8, f 9, f 10, f 11, f 12, f 13, f 14, f 15, f 16, f 17, f 18, f 19, f 20, f 21, f 22, f 23, f 24, f 25, f 26, f 27, f 28, f 29, f 30, f 31, f 32, f 33, f 34, f 35, f 36, f 37, f 38, f 39, f 40, f 41, f 42, f 43, f 44, f 45, f 46, f 47, f 48, f 49, f 50, f 51, f 52, f 53, f 54, f 55, f 56, f 57, f 58, f 59, f 60, f 61, f 62, f 63, f 64, f 65, f 66, f 67, f 68, f 69, f 70, f 71, f 72, f 73, f 74, f 75, f 76, f 77, f 78, f 79, f 80, f 81, f 82, f 83, f 84, f 85, f 86, f 87, f 88, f 89, f 90, f 91, f 92, f 93, f 94, f 95, f 96, f 97, f 98, f 99, f 100, f 101, f 102, f 103, f 104, f 105, f 106, f 107, f 108, f 109, f 110, f 111, f 112, f 113, f 114, f 115, f 116, f 117, f 118, f 119, f 120, f 121, f 122, f 123, f 124, f 125, f 126, f 127, f 128, f 129, f 130, f 131, f 132, f 133, f 134, f 135, f 136, f 137, f 138, f 139, f 140, f 141, f 142, f 143, f 144, f 145, f 146, f 147, f 148, f 149, f 150, f 151, f 152], []⟩ := rfl
                replace hK : ∀ v W', Below W.heap.size W W' → phRc x al kl PL gx alg clg D1 D2 K1 S1 S2 S3 S4 S5 S6 0 v W' → K ((mono.lit 153 f []).put (some 79) v) W' := hK
                rw [eL] at hK ⊢
                simp only [Act.put, List.setIfInBounds_toArray, List.set_cons_succ, List.set_cons_zero] at hK
                have o4 : f 4 = (.slice al PL.length kl) := hO 4 (by kernel_rfl)
                rw [o4] at hK ⊢
                go_simp
                exact hK _ _ (Below.refl _ _) rfl
              · refine mono.dutyT_of rfl ?_
                intro f W hR hO hD K hK
                have eL : mono.lit 153 f [] = ⟨#[f 0, f 1, f 2, f 3, f 4, f 5, f 6, f 7, f 8, f 9, f 10, f 11, f 12, f 13, f 14, f 15, f 16, f 17, f 18, f 19, f 20, f 21, f 22, f 23, f 24, f 25, f 26, f 27, f 28, f 29, f 30, f 31, f 32, f 33, f 34, f 35, f 36, f 37, f 38, f 39, f 40, f 41, f 42, f 43, f 44, f 45, f 46, f 47, f 48, f 49, f 50, f 51, f 52, f 53, f 54, f 55, f 56, f 57, f 58, f 59, f 60, f 61, f 62, f 63, f 64, f 65, f 66, f 67, f 68, f 69, f 70, f 71, f 72, f 73, f 74, f 75, f 76, f 77, f 78, f 79, f 80, f 81, f 82, f 83, f 84, f 85, f 86, f 87, f 88, f 89, f 90, f 91, f 92, f 93, f 94, f 95, f 96, f 97, f 98, f 99, f 100, f 101, f 102, f 103, f 104, f 105, f 106, f 107, f 108, f 109, f 110, f 111, f 112, f 113, f 114, f 115, f 116, f 117, f 118, f 119, f 120, f 121, f 122, f 123, f 124, f 125, f 126, f 127, f 128, f 129, f 130, f 131, f 132, f 133, f 134, f 135, f 136, f 137, f 138, f 139, f 140, f 141, f 142, f 143, f 144, f 145, f 146, f 147, f 148, f 149, f 150, f 151, f 152], []⟩ := rfl
                replace hK : ∀ v W', Below W.heap.size W W' → phRc x al kl PL gx alg clg D1 D2 K1 S1 S2 S3 S4 S5 S6 1 v W' → K ((mono.lit 153 f []).put (some 80) v) W' := hK
                rw [eL] at hK ⊢
                simp only [Act.put, List.setIfInBounds_toArray, List.set_cons_succ, List.set_cons_zero] at hK
                have o8 : f 8 = (.pointer (some ⟨gx, 0, none⟩)) := hO 8 (by kernel_rfl)
                rw [o8] at hK ⊢
                go_simp
                exact hK _ _ (Below.refl _ _) rfl
              · refine mono.dutyT_of rfl ?_
                intro f W hR hO hD K hK
                have eL : mono.lit 153 f [] = ⟨#[f 0, f 1, f 2, f 3, f 4, f 5, f 6, f 7, f 8, f 9, f 10, f 11, f 12, f 13, f 14, f 15, f 16, f 17, f 18, f 19, f 20, f 21, f 22, f 23, f 24, f 25, f 26, f 27, f 28, f 29, f 30, f 31, f 32, f 33, f 34, f 35, f 36, f 37, f 38, f 39, f 40, f 41, f 42, f 43, f 44, f 45, f 46, f 47, f 48, f 49, f 50, f 51, f 52, f 53, f 54, f 55, f 56, f 57, f 58, f 59, f 60, f 61, f 62, f 63, f 64, f 65, f 66, f 67, f 68, f 69, f 70, f 71, f 72, f 73, f 74, f 75, f 76, f 77, f 78, f 79, f 80, f 81, f 82, f 83, f 84, f 85, f 86, f 87, f 88, f 89, f 90, f 91, f 92, f 93, f 94, f 95, f 96, f 97, f 98, f 99, f 100, f 101, f 102, f 103, f 104, f 105, f 106, f 107, f 108, f 109, f 110, f 111, f 112, f 113, f 114, f 115, f 116, f 117, f 118, f 119, f 120, f 121, f 122, f 123, f 124, f 125, f 126, f 127, f 128, f 129, f 130, f 131, f 132, f 133, f 134, f 135, f 136, f 137, f 138, f 139, f 140, f 141, f 142, f 143, f 144, f 145, f 146, f 147, f 148, f 149, f 150, f 151, f 152], []⟩ := rfl
                replace hK : ∀ v W', Below W.heap.size W W' → phRc x al kl PL gx alg clg D1 D2 K1 S1 S2 S3 S4 S5 S6 2 v W' → K ((mono.lit 153 f []).put (some 81) v) W' := hK
                rw [eL] at hK ⊢
                simp only [Act.put, List.setIfInBounds_toArray, List.set_cons_succ, List.set_cons_zero] at hK
                have q1 := hD 1 80 (by kernel_rfl) (by kernel_rfl)
                replace q1 : f 80 = (.pointer (some ⟨gx, 0, none⟩)) := q1
                rw [q1] at hK ⊢
                obtain ⟨x0, x1, x2, x3, x4, x5⟩ := hcel W hR
                go_simp
                exact hK _ _ (Below.refl _ _) rfl
              · refine mono.dutyT_of rfl ?_
                intro f W hR hO hD K hK
                have eL : mono.lit 153 f [] = ⟨#[f 0, f 1, f 2, f 3, f 4, f 5, f 6, f 7, f 8, f 9, f 10, f 11, f 12, f 13, f 14, f 15, f 16, f 17, f 18, f 19, f 20, f 21, f 22, f 23, f 24, f 25, f 26, f 27, f 28, f 29, f 30, f 31, f 32, f 33, f 34, f 35, f 36, f 37, f 38, f 39, f 40, f 41, f 42, f 43, f 44, f 45, f 46, f 47, f 48, f 49, f 50, f 51, f 52, f 53, f 54, f 55, f 56, f 57, f 58, f 59, f 60, f 61, f 62, f 63, f 64, f 65, f 66, f 67, f 68, f 69, f 70, f 71, f 72, f 73, f 74, f 75, f 76, f 77, f 78, f 79, f 80, f 81, f 82, f 83, f 84, f 85, f 86, f 87, f 88, f 89, f 90, f 91, f 92, f 93, f 94, f 95, f 96, f 97, f 98, f 99, f 100, f 101, f 102, f 103, f 104, f 105, f 106, f 107, f 108, f 109, f 110, f 111, f 112, f 113, f 114, f 115, f 116, f 117, f 118, f 119, f 120, f 121, f 122, f 123, f 124, f 125, f 126, f 127, f 128, f 129, f 130, f 131, f 132, f 133, f 134, f 135, f 136, f 137, f 138, f 139, f 140, f 141, f 142, f 143, f 144, f 145, f 146, f 147, f 148, f 149, f 150, f 151, f 152], []⟩ := rfl
                replace hK : ∀ v W', Below W.heap.size W W' → phRc x al kl PL gx alg clg D1 D2 K1 S1 S2 S3 S4 S5 S6 3 v W' → K ((mono.lit 153 f []).put (some 82) v) W' := hK
                rw [eL] at hK ⊢
                simp only [Act.put, List.setIfInBounds_toArray, List.set_cons_succ, List.set_cons_zero] at hK
                have q2 := hD 2 81 (by kernel_rfl) (by kernel_rfl)
                replace q2 : f 81 = (.int .i64 x.n) := q2
                rw [q2] at hK ⊢
                have cX := n0 W hR
                go_simp
                refine cX.mono ?_
                rintro e w9 ⟨rfl, hb⟩
                exact hK _ _ hb rfl
              · refine mono.dutyT_of rfl ?_
                intro f W hR hO hD K hK
                have eL : mono.lit 153 f [] = ⟨#[f 0, f 1, f 2, f 3, f 4, f 5, f 6, f 7, f 8, f 9, f 10, f 11, f 12, f 13, f 14, f 15, f 16, f 17, f 18, f 19, f 20, f 21, f 22, f 23, f 24, f 25, f 26, f 27, f 28, f 29, f 30, f 31, f 32, f 33, f 34, f 35, f 36, f 37, f 38, f 39, f 40, f 41, f 42, f 43, f 44, f 45, f 46, f 47, f 48, f 49, f 50, f 51, f 52, f 53, f 54, f 55, f 56, f 57, f 58, f 59, f 60, f 61, f 62, f 63, f 64, f 65, f 66, f 67, f 68, f 69, f 70, f 71, f 72, f 73, f 74, f 75, f 76, f 77, f 78, f 79, f 80, f 81, f 82, f 83, f 84, f 85, f 86, f 87, f 88, f 89, f 90, f 91, f 92, f 93, f 94, f 95, f 96, f 97, f 98, f 99, f 100, f 101, f 102, f 103, f 104, f 105, f 106, f 107, f 108, f 109, f 110, f 111, f 112, f 113, f 114, f 115, f 116, f 117, f 118, f 119, f 120, f 121, f 122, f 123, f 124, f 125, f 126, f 127, f 128, f 129, f 130, f 131, f 132, f 133, f 134, f 135, f 136, f 137, f 138, f 139, f 140, f 141, f 142, f 143, f 144, f 145, f 146, f 147, f 148, f 149, f 150, f 151, f 152], []⟩ := rfl
                replace hK : ∀ v W', Below W.heap.size W W' → phRc x al kl PL gx alg clg D1 D2 K1 S1 S2 S3 S4 S5 S6 4 v W' → K ((mono.lit 153 f []).put (some 83) v) W' := hK
                rw [eL] at hK ⊢
                simp only [Act.put, List.setIfInBounds_toArray, List.set_cons_succ, List.set_cons_zero] at hK
                have q3 := hD 3 82 (by kernel_rfl) (by kernel_rfl)
                replace q3 : f 82 = (.string (K1)) := q3
                rw [q3] at hK ⊢
                go_simp
                exact hK _ _ (Below.refl _ _) rfl
              · refine mono.dutyT_of rfl ?_
                intro f W hR hO hD K hK
                have eL : mono.lit 153 f [] = ⟨#[f 0, f 1, f 2, f 3, f 4, f 5, f 6, f 7, f 8, f 9, f 10, f 11, f 12, f 13, f 14, f 15, f 16, f 17, f 18, f 19, f 20, f 21, f 22, f 23, f 24, f 25, f 26, f 27, f 28, f 29, f 30, f 31, f 32, f 33, f 34, f 35, f 36, f 37, f 38, f 39, f 40, f 41, f 42, f 43, f 44, f 45, f 46, f 47, f 48, f 49, f 50, f 51, f 52, f 53, f 54, f 55, f 56, f 57, f 58, f 59, f 60, f 61, f 62, f 63, f 64, f 65, f 66, f 67, f 68, f 69, f 70, f 71, f 72, f 73, f 74, f 75, f 76, f 77, f 78, f 79, f 80, f 81, f 82, f 83, f 84, f 85, f 86, f 87, f 88, f 89, f 90, f 91, f 92, f 93, f 94, f 95, f 96, f 97, f 98, f 99, f 100, f 101, f 102, f 103, f 104, f 105, f 106, f 107, f 108, f 109, f 110, f 111, f 112, f 113, f 114, f 115, f 116, f 117, f 118, f 119, f 120, f 121, f 122, f 123, f 124, f 125, f 126, f 127, f 128, f 129, f 130, f 131, f 132, f 133, f 134, f 135, f 136, f 137, f 138, f 139, f 140, f 141, f 142, f 143, f 144, f 145, f 146, f 147, f 148, f 149, f 150, f 151, f 152], []⟩ := rfl
                replace hK : ∀ v W', Below W.heap.size W W' → phRc x al kl PL gx alg clg D1 D2 K1 S1 S2 S3 S4 S5 S6 5 v W' → K ((mono.lit 153 f []).put (some 84) v) W' := hK
                rw [eL] at hK ⊢
                simp only [Act.put, List.setIfInBounds_toArray, List.set_cons_succ, List.set_cons_zero] at hK
                have o8 : f 8 = (.pointer (some ⟨gx, 0, none⟩)) := hO 8 (by kernel_rfl)
                rw [o8] at hK ⊢
                go_simp
                exact hK _ _ (Below.refl _ _) rfl
              · refine mono.dutyT_of rfl ?_
                intro f W hR hO hD K hK
                have eL : mono.lit 153 f [] = ⟨#[f 0, f 1, f 2, f 3, f 4, f 5, f 6, f 7, f 8, f 9, f 10, f 11, f 12, f 13, f 14, f 15, f 16, f 17, f 18, f 19, f 20, f 21, f 22, f 23, f 24, f 25, f 26, f 27, f 28, f 29, f 30, f 31, f 32, f 33, f 34, f 35, f 36, f 37, f 38, f 39, f 40, f 41, f 42, f 43, f 44, f 45, f 46, f 47, f 48, f 49, f 50, f 51, f 52, f 53, f 54, f 55, f 56, f 57, f 58, f 59, f 60, f 61, f 62, f 63, f 64, f 65, f 66, f 67, f 68, f 69, f 70, f 71, f 72, f 73, f 74, f 75, f 76, f 77, f 78, f 79, f 80, f 81, f 82, f 83, f 84, f 85, f 86, f 87, f 88, f 89, f 90, f 91, f 92, f 93, f 94, f 95, f 96, f 97, f 98, f 99, f 100, f 101, f 102, f 103, f 104, f 105, f 106, f 107, f 108, f 109, f 110, f 111, f 112, f 113, f 114, f 115, f 116, f 117, f 118, f 119, f 120, f 121, f 122, f 123, f 124, f 125, f 126, f 127, f 128, f 129, f 130, f 131, f 132, f 133, f 134, f 135, f 136, f 137, f 138, f 139, f 140, f 141, f 142, f 143, f 144, f 145, f 146, f 147, f 148, f 149, f 150, f 151, f 152], []⟩ := rfl
                replace hK : ∀ v W', Below W.heap.size W W' → phRc x al kl PL gx alg clg D1 D2 K1 S1 S2 S3 S4 S5 S6 6 v W' → K ((mono.lit 153 f []).put (some 85) v) W' := hK
                rw [eL] at hK ⊢
                simp only [Act.put, List.setIfInBounds_toArray, List.set_cons_succ, List.set_cons_zero] at hK
                have q5 := hD 5 84 (by kernel_rfl) (by kernel_rfl)
                replace q5 : f 84 = (.pointer (some ⟨gx, 0, none⟩)) := q5
                rw [q5] at hK ⊢
                obtain ⟨x0, x1, x2, x3, x4, x5⟩ := hcel W hR
                go_simp
                exact hK _ _ (Below.refl _ _) rfl
              · refine mono.dutyT_of rfl ?_
                intro f W hR hO hD K hK
                have eL : mono.lit 153 f [] = ⟨#[f 0, f 1, f 2, f 3, f 4, f 5, f 6, f 7, f 8, f 9, f 10, f 11, f 12, f 13, f 14, f 15, f 16, f 17, f 18, f 19, f 20, f 21, f 22, f 23, f 24, f 25, f 26, f 27, f 28, f 29, f 30, f 31, f 32, f 33, f 34, f 35, f 36, f 37, f 38, f 39, f 40, f 41, f 42, f 43, f 44, f 45, f 46, f 47, f 48, f 49, f 50, f 51, f 52, f 53, f 54, f 55, f 56, f 57, f 58, f 59, f 60, f 61, f 62, f 63, f 64, f 65, f 66, f 67, f 68, f 69, f 70, f 71, f 72, f 73, f 74, f 75, f 76, f 77, f 78, f 79, f 80, f 81, f 82, f 83, f 84, f 85, f 86, f 87, f 88, f 89, f 90, f 91, f 92, f 93, f 94, f 95, f 96, f 97, f 98, f 99, f 100, f 101, f 102, f 103, f 104, f 105, f 106, f 107, f 108, f 109, f 110, f 111, f 112, f 113, f 114, f 115, f 116, f 117, f 118, f 119, f 120, f 121, f 122, f 123, f 124, f 125, f 126, f 127, f 128, f 129, f 130, f 131, f 132, f 133, f 134, f 135, f 136, f 137, f 138, f 139, f 140, f 141, f 142, f 143, f 144, f 145, f 146, f 147, f 148, f 149, f 150, f 151, f 152], []⟩ := rfl
                replace hK : ∀ v W', Below W.heap.size W W' → phRc x al kl PL gx alg clg D1 D2 K1 S1 S2 S3 S4 S5 S6 7 v W' → K ((mono.lit 153 f []).put (some 86) v) W' := hK
                rw [eL] at hK ⊢
                simp only [Act.put, List.setIfInBounds_toArray, List.set_cons_succ, List.set_cons_zero] at hK
                have q6 := hD 6 85 (by kernel_rfl) (by kernel_rfl)
                replace q6 : f 85 = (.int .i64 x.n) := q6
                rw [q6] at hK ⊢
                have cX := n1 W hR
                go_simp
                refine cX.mono ?_
                rintro e w9 ⟨rfl, hb⟩
                exact hK _ _ hb rfl
              · refine mono.dutyT_of rfl ?_
                intro f W hR hO hD K hK
                have eL : mono.lit 153 f [] = ⟨#[f 0, f 1, f 2, f 3, f 4, f 5, f 6, f 7, f 8, f 9, f 10, f 11, f 12, f 13, f 14, f 15, f 16, f 17, f 18, f 19, f 20, f 21, f 22, f 23, f 24, f 25, f 26, f 27, f 28, f 29, f 30, f 31, f 32, f 33, f 34, f 35, f 36, f 37, f 38, f 39, f 40, f 41, f 42, f 43, f 44, f 45, f 46, f 47, f 48, f 49, f 50, f 51, f 52, f 53, f 54, f 55, f 56, f 57, f 58, f 59, f 60, f 61, f 62, f 63, f 64, f 65, f 66, f 67, f 68, f 69, f 70, f 71, f 72, f 73, f 74, f 75, f 76, f 77, f 78, f 79, f 80, f 81, f 82, f 83, f 84, f 85, f 86, f 87, f 88, f 89, f 90, f 91, f 92, f 93, f 94, f 95, f 96, f 97, f 98, f 99, f 100, f 101, f 102, f 103, f 104, f 105, f 106, f 107, f 108, f 109, f 110, f 111, f 112, f 113, f 114, f 115, f 116, f 117, f 118, f 119, f 120, f 121, f 122, f 123, f 124, f 125, f 126, f 127, f 128, f 129, f 130, f 131, f 132, f 133, f 134, f 135, f 136, f 137, f 138, f 139, f 140, f 141, f 142, f 143, f 144, f 145, f 146, f 147, f 148, f 149, f 150, f 151, f 152], []⟩ := rfl
                replace hK : ∀ v W', Below W.heap.size W W' → phRc x al kl PL gx alg clg D1 D2 K1 S1 S2 S3 S4 S5 S6 8 v W' → K ((mono.lit 153 f []).put (some 87) v) W' := hK
                rw [eL] at hK ⊢
                simp only [Act.put, List.setIfInBounds_toArray, List.set_cons_succ, List.set_cons_zero] at hK
                have o8 : f 8 = (.pointer (some ⟨gx, 0, none⟩)) := hO 8 (by kernel_rfl)
                rw [o8] at hK ⊢
                go_simp
                exact hK _ _ (Below.refl _ _) rfl
              · refine mono.dutyT_of rfl ?_
                intro f W hR hO hD K hK
                have eL : mono.lit 153 f [] = ⟨#[f 0, f 1, f 2, f 3, f 4, f 5, f 6, f 7, f 8, f 9, f 10, f 11, f 12, f 13, f 14, f 15, f 16, f 17, f 18, f 19, f 20, f 21, f 22, f 23, f 24, f 25, f 26, f 27, f 28, f 29, f 30, f 31, f 32, f 33, f 34, f 35, f 36, f 37, f 38, f 39, f 40, f 41, f 42, f 43, f 44, f 45, f 46, f 47, f 48, f 49, f 50, f 51, f 52, f 53, f 54, f 55, f 56, f 57, f 58, f 59, f 60, f 61, f 62, f 63, f 64, f 65, f 66, f 67, f 68, f 69, f 70, f 71, f 72, f 73, f 74, f 75, f 76, f 77, f 78, f 79, f 80, f 81, f 82, f 83, f 84, f 85, f 86, f 87, f 88, f 89, f 90, f 91, f 92, f 93, f 94, f 95, f 96, f 97, f 98, f 99, f 100, f 101, f 102, f 103, f 104, f 105, f 106, f 107, f 108, f 109, f 110, f 111, f 112, f 113, f 114, f 115, f 116, f 117, f 118, f 119, f 120, f 121, f 122, f 123, f 124, f 125, f 126, f 127, f 128, f 129, f 130, f 131, f 132, f 133, f 134, f 135, f 136, f 137, f 138, f 139, f 140, f 141, f 142, f 143, f 144, f 145, f 146, f 147, f 148, f 149, f 150, f 151, f 152], []⟩ := rfl
                replace hK : ∀ v W', Below W.heap.size W W' → phRc x al kl PL gx alg clg D1 D2 K1 S1 S2 S3 S4 S5 S6 9 v W' → K ((mono.lit 153 f []).put (some 88) v) W' := hK
                rw [eL] at hK ⊢
                simp only [Act.put, List.setIfInBounds_toArray, List.set_cons_succ, List.set_cons_zero] at hK
                have q8 := hD 8 87 (by kernel_rfl) (by kernel_rfl)
                replace q8 : f 87 = (.pointer (some ⟨gx, 1, none⟩)) := q8
                rw [q8] at hK ⊢
                obtain ⟨x0, x1, x2, x3, x4, x5⟩ := hcel W hR
                go_simp
                exact hK _ _ (Below.refl _ _) rfl
              · refine mono.dutyT_of rfl ?_
                intro f W hR hO hD K hK
                have eL : mono.lit 153 f [] = ⟨#[f 0, f 1, f 2, f 3, f 4, f 5, f 6, f 7, f 8, f 9, f 10, f 11, f 12, f 13, f 14, f 15, f 16, f 17, f 18, f 19, f 20, f 21, f 22, f 23, f 24, f 25, f 26, f 27, f 28, f 29, f 30, f 31, f 32, f 33, f 34, f 35, f 36, f 37, f 38, f 39, f 40, f 41, f 42, f 43, f 44, f 45, f 46, f 47, f 48, f 49, f 50, f 51, f 52, f 53, f 54, f 55, f 56, f 57, f 58, f 59, f 60, f 61, f 62, f 63, f 64, f 65, f 66, f 67, f 68, f 69, f 70, f 71, f 72, f 73, f 74, f 75, f 76, f 77, f 78, f 79, f 80, f 81, f 82, f 83, f 84, f 85, f 86, f 87, f 88, f 89, f 90, f 91, f 92, f 93, f 94, f 95, f 96, f 97, f 98, f 99, f 100, f 101, f 102, f 103, f 104, f 105, f 106, f 107, f 108, f 109, f 110, f 111, f 112, f 113, f 114, f 115, f 116, f 117, f 118, f 119, f 120, f 121, f 122, f 123, f 124, f 125, f 126, f 127, f 128, f 129, f 130, f 131, f 132, f 133, f 134, f 135, f 136, f 137, f 138, f 139, f 140, f 141, f 142, f 143, f 144, f 145, f 146, f 147, f 148, f 149, f 150, f 151, f 152], []⟩ := rfl
                replace hK : ∀ v W', Below W.heap.size W W' → phRc x al kl PL gx alg clg D1 D2 K1 S1 S2 S3 S4 S5 S6 10 v W' → K ((mono.lit 153 f []).put (some 89) v) W' := hK
                rw [eL] at hK ⊢
                simp only [Act.put, List.setIfInBounds_toArray, List.set_cons_succ, List.set_cons_zero] at hK
                have q9 := hD 9 88 (by kernel_rfl) (by kernel_rfl)
                replace q9 : f 88 = (.slice alg x.ps.length clg) := q9
                rw [q9] at hK ⊢
                have cX := n2 W hR
                go_simp
                refine cX.mono ?_
                rintro e w9 ⟨rfl, hb⟩
                exact hK _ _ hb rfl
              · refine mono.dutyT_of rfl ?_
                intro f W hR hO hD K hK
                have eL : mono.lit 153 f [] = ⟨#[f 0, f 1, f 2, f 3, f 4, f 5, f 6, f 7, f 8, f 9, f 10, f 11, f 12, f 13, f 14, f 15, f 16, f 17, f 18, f 19, f 20, f 21, f 22, f 23, f 24, f 25, f 26, f 27, f 28, f 29, f 30, f 31, f 32, f 33, f 34, f 35, f 36, f 37, f 38, f 39, f 40, f 41, f 42, f 43, f 44, f 45, f 46, f 47, f 48, f 49, f 50, f 51, f 52, f 53, f 54, f 55, f 56, f 57, f 58, f 59, f 60, f 61, f 62, f 63, f 64, f 65, f 66, f 67, f 68, f 69, f 70, f 71, f 72, f 73, f 74, f 75, f 76, f 77, f 78, f 79, f 80, f 81, f 82, f 83, f 84, f 85, f 86, f 87, f 88, f 89, f 90, f 91, f 92, f 93, f 94, f 95, f 96, f 97, f 98, f 99, f 100, f 101, f 102, f 103, f 104, f 105, f 106, f 107, f 108, f 109, f 110, f 111, f 112, f 113, f 114, f 115, f 116, f 117, f 118, f 119, f 120, f 121, f 122, f 123, f 124, f 125, f 126, f 127, f 128, f 129, f 130, f 131, f 132, f 133, f 134, f 135, f 136, f 137, f 138, f 139, f 140, f 141, f 142, f 143, f 144, f 145, f 146, f 147, f 148, f 149, f 150, f 151, f 152], []⟩ := rfl
                replace hK : ∀ v W', Below W.heap.size W W' → phRc x al kl PL gx alg clg D1 D2 K1 S1 S2 S3 S4 S5 S6 11 v W' → K ((mono.lit 153 f []).put (some 90) v) W' := hK
                rw [eL] at hK ⊢
                simp only [Act.put, List.setIfInBounds_toArray, List.set_cons_succ, List.set_cons_zero] at hK
                have q7 := hD 7 86 (by kernel_rfl) (by kernel_rfl)
                replace q7 : f 86 = (.string (S1)) := q7
                have q10 := hD 10 89 (by kernel_rfl) (by kernel_rfl)
                replace q10 : f 89 = (.string (S2)) := q10
                rw [q7, q10] at hK ⊢
                go_simp
                exact hK _ _ (Below.refl _ _) rfl
              · refine mono.dutyT_of rfl ?_
                intro f W hR hO hD K hK
                have eL : mono.lit 153 f [] = ⟨#[f 0, f 1, f 2, f 3, f 4, f 5, f 6, f 7, f 8, f 9, f 10, f 11, f 12, f 13, f 14, f 15, f 16, f 17, f 18, f 19, f 20, f 21, f 22, f 23, f 24, f 25, f 26, f 27, f 28, f 29, f 30, f 31, f 32, f 33, f 34, f 35, f 36, f 37, f 38, f 39, f 40, f 41, f 42, f 43, f 44, f 45, f 46, f 47, f 48, f 49, f 50, f 51, f 52, f 53, f 54, f 55, f 56, f 57, f 58, f 59, f 60, f 61, f 62, f 63, f 64, f 65, f 66, f 67, f 68, f 69, f 70, f 71, f 72, f 73, f 74, f 75, f 76, f 77, f 78, f 79, f 80, f 81, f 82, f 83, f 84, f 85, f 86, f 87, f 88, f 89, f 90, f 91, f 92, f 93, f 94, f 95, f 96, f 97, f 98, f 99, f 100, f 101, f 102, f 103, f 104, f 105, f 106, f 107, f 108, f 109, f 110, f 111, f 112, f 113, f 114, f 115, f 116, f 117, f 118, f 119, f 120, f 121, f 122, f 123, f 124, f 125, f 126, f 127, f 128, f 129, f 130, f 131, f 132, f 133, f 134, f 135, f 136, f 137, f 138, f 139, f 140, f 141, f 142, f 143, f 144, f 145, f 146, f 147, f 148, f 149, f 150, f 151, f 152], []⟩ := rfl
                replace hK : ∀ v W', Below W.heap.size W W' → phRc x al kl PL gx alg clg D1 D2 K1 S1 S2 S3 S4 S5 S6 12 v W' → K ((mono.lit 153 f []).put (some 91) v) W' := hK
                rw [eL] at hK ⊢
                simp only [Act.put, List.setIfInBounds_toArray, List.set_cons_succ, List.set_cons_zero] at hK
                have o9 : f 9 = (.string (D1)) := hO 9 (by kernel_rfl)
                rw [o9] at hK ⊢
                go_simp
                exact hK _ _ (Below.refl _ _) rfl
              · refine mono.dutyT_of rfl ?_
                intro f W hR hO hD K hK
                have eL : mono.lit 153 f [] = ⟨#[f 0, f 1, f 2, f 3, f 4, f 5, f 6, f 7, f 8, f 9, f 10, f 11, f 12, f 13, f 14, f 15, f 16, f 17, f 18, f 19, f 20, f 21, f 22, f 23, f 24, f 25, f 26, f 27, f 28, f 29, f 30, f 31, f 32, f 33, f 34, f 35, f 36, f 37, f 38, f 39, f 40, f 41, f 42, f 43, f 44, f 45, f 46, f 47, f 48, f 49, f 50, f 51, f 52, f 53, f 54, f 55, f 56, f 57, f 58, f 59, f 60, f 61, f 62, f 63, f 64, f 65, f 66, f 67, f 68, f 69, f 70, f 71, f 72, f 73, f 74, f 75, f 76, f 77, f 78, f 79, f 80, f 81, f 82, f 83, f 84, f 85, f 86, f 87, f 88, f 89, f 90, f 91, f 92, f 93, f 94, f 95, f 96, f 97, f 98, f 99, f 100, f 101, f 102, f 103, f 104, f 105, f 106, f 107, f 108, f 109, f 110, f 111, f 112, f 113, f 114, f 115, f 116, f 117, f 118, f 119, f 120, f 121, f 122, f 123, f 124, f 125, f 126, f 127, f 128, f 129, f 130, f 131, f 132, f 133, f 134, f 135, f 136, f 137, f 138, f 139, f 140, f 141, f 142, f 143, f 144, f 145, f 146, f 147, f 148, f 149, f 150, f 151, f 152], []⟩ := rfl
                replace hK : ∀ v W', Below W.heap.size W W' → phRc x al kl PL gx alg clg D1 D2 K1 S1 S2 S3 S4 S5 S6 13 v W' → K ((mono.lit 153 f []).put (some 92) v) W' := hK
                rw [eL] at hK ⊢
                simp only [Act.put, List.setIfInBounds_toArray, List.set_cons_succ, List.set_cons_zero] at hK
                have q12 := hD 12 91 (by kernel_rfl) (by kernel_rfl)
                replace q12 : f 91 = (.string (D1)) := q12
                rw [q12] at hK ⊢
                have cX := n3 W hR
                go_simp
                refine cX.mono ?_
                rintro e w9 ⟨rfl, hb⟩
                exact hK _ _ hb rfl
              · refine mono.dutyT_of rfl ?_
                intro f W hR hO hD K hK
                have eL : mono.lit 153 f [] = ⟨#[f 0, f 1, f 2, f 3, f 4, f 5, f 6, f 7, f 8, f 9, f 10, f 11, f 12, f 13, f 14, f 15, f 16, f 17, f 18, f 19, f 20, f 21, f 22, f 23, f 24, f 25, f 26, f 27, f 28, f 29, f 30, f 31, f 32, f 33, f 34, f 35, f 36, f 37, f 38, f 39, f 40, f 41, f 42, f 43, f 44, f 45, f 46, f 47, f 48, f 49, f 50, f 51, f 52, f 53, f 54, f 55, f 56, f 57, f 58, f 59, f 60, f 61, f 62, f 63, f 64, f 65, f 66, f 67, f 68, f 69, f 70, f 71, f 72, f 73, f 74, f 75, f 76, f 77, f 78, f 79, f 80, f 81, f 82, f 83, f 84, f 85, f 86, f 87, f 88, f 89, f 90, f 91, f 92, f 93, f 94, f 95, f 96, f 97, f 98, f 99, f 100, f 101, f 102, f 103, f 104, f 105, f 106, f 107, f 108, f 109, f 110, f 111, f 112, f 113, f 114, f 115, f 116, f 117, f 118, f 119, f 120, f 121, f 122, f 123, f 124, f 125, f 126, f 127, f 128, f 129, f 130, f 131, f 132, f 133, f 134, f 135, f 136, f 137, f 138, f 139, f 140, f 141, f 142, f 143, f 144, f 145, f 146, f 147, f 148, f 149, f 150, f 151, f 152], []⟩ := rfl
                replace hK : ∀ v W', Below W.heap.size W W' → phRc x al kl PL gx alg clg D1 D2 K1 S1 S2 S3 S4 S5 S6 14 v W' → K ((mono.lit 153 f []).put (some 93) v) W' := hK
                rw [eL] at hK ⊢
                simp only [Act.put, List.setIfInBounds_toArray, List.set_cons_succ, List.set_cons_zero] at hK
                have q11 := hD 11 90 (by kernel_rfl) (by kernel_rfl)
                replace q11 : f 90 = (.string (S1 ++ S2)) := q11
                have q13 := hD 13 92 (by kernel_rfl) (by kernel_rfl)
                replace q13 : f 92 = (.string (S3)) := q13
                rw [q11, q13] at hK ⊢
                go_simp
                exact hK _ _ (Below.refl _ _) rfl
              · refine mono.dutyT_of rfl ?_
                intro f W hR hO hD K hK
                have eL : mono.lit 153 f [] = ⟨#[f 0, f 1, f 2, f 3, f 4, f 5, f 6, f 7, f 8, f 9, f 10, f 11, f 12, f 13, f 14, f 15, f 16, f 17, f 18, f 19, f 20, f 21, f 22, f 23, f 24, f 25, f 26, f 27, f 28, f 29, f 30, f 31, f 32, f 33, f 34, f 35, f 36, f 37, f 38, f 39, f 40, f 41, f 42, f 43, f 44, f 45, f 46, f 47, f 48, f 49, f 50, f 51, f 52, f 53, f 54, f 55, f 56, f 57, f 58, f 59, f 60, f 61, f 62, f 63, f 64, f 65, f 66, f 67, f 68, f 69, f 70, f 71, f 72, f 73, f 74, f 75, f 76, f 77, f 78, f 79, f 80, f 81, f 82, f 83, f 84, f 85, f 86, f 87, f 88, f 89, f 90, f 91, f 92, f 93, f 94, f 95, f 96, f 97, f 98, f 99, f 100, f 101, f 102, f 103, f 104, f 105, f 106, f 107, f 108, f 109, f 110, f 111, f 112, f 113, f 114, f 115, f 116, f 117, f 118, f 119, f 120, f 121, f 122, f 123, f 124, f 125, f 126, f 127, f 128, f 129, f 130, f 131, f 132, f 133, f 134, f 135, f 136, f 137, f 138, f 139, f 140, f 141, f 142, f 143, f 144, f 145, f 146, f 147, f 148, f 149, f 150, f 151, f 152], []⟩ := rfl
                replace hK : ∀ v W', Below W.heap.size W W' → phRc x al kl PL gx alg clg D1 D2 K1 S1 S2 S3 S4 S5 S6 15 v W' → K ((mono.lit 153 f []).put (some 94) v) W' := hK
                rw [eL] at hK ⊢
                simp only [Act.put, List.setIfInBounds_toArray, List.set_cons_succ, List.set_cons_zero] at hK
                have o11 : f 11 = (.string (D2)) := hO 11 (by kernel_rfl)
                rw [o11] at hK ⊢
                go_simp
                exact hK _ _ (Below.refl _ _) rfl
              · refine mono.dutyT_of rfl ?_
                intro f W hR hO hD K hK
                have eL : mono.lit 153 f [] = ⟨#[f 0, f 1, f 2, f 3, f 4, f 5, f 6, f 7, f 8, f 9, f 10, f 11, f 12, f 13, f 14, f 15, f 16, f 17, f 18, f 19, f 20, f 21, f 22, f 23, f 24, f 25, f 26, f 27, f 28, f 29, f 30, f 31, f 32, f 33, f 34, f 35, f 36, f 37, f 38, f 39, f 40, f 41, f 42, f 43, f 44, f 45, f 46, f 47, f 48, f 49, f 50, f 51, f 52, f 53, f 54, f 55, f 56, f 57, f 58, f 59, f 60, f 61, f 62, f 63, f 64, f 65, f 66, f 67, f 68, f 69, f 70, f 71, f 72, f 73, f 74, f 75, f 76, f 77, f 78, f 79, f 80, f 81, f 82, f 83, f 84, f 85, f 86, f 87, f 88, f 89, f 90, f 91, f 92, f 93, f 94, f 95, f 96, f 97, f 98, f 99, f 100, f 101, f 102, f 103, f 104, f 105, f 106, f 107, f 108, f 109, f 110, f 111, f 112, f 113, f 114, f 115, f 116, f 117, f 118, f 119, f 120, f 121, f 122, f 123, f 124, f 125, f 126, f 127, f 128, f 129, f 130, f 131, f 132, f 133, f 134, f 135, f 136, f 137, f 138, f 139, f 140, f 141, f 142, f 143, f 144, f 145, f 146, f 147, f 148, f 149, f 150, f 151, f 152], []⟩ := rfl
                replace hK : ∀ v W', Below W.heap.size W W' → phRc x al kl PL gx alg clg D1 D2 K1 S1 S2 S3 S4 S5 S6 16 v W' → K ((mono.lit 153 f []).put (some 95) v) W' := hK
                rw [eL] at hK ⊢
                simp only [Act.put, List.setIfInBounds_toArray, List.set_cons_succ, List.set_cons_zero] at hK
                have q15 := hD 15 94 (by kernel_rfl) (by kernel_rfl)
                replace q15 : f 94 = (.string (D2)) := q15
                rw [q15] at hK ⊢
                have cX := n4 W hR
                go_simp
                refine cX.mono ?_
                rintro e w9 ⟨rfl, hb⟩
                exact hK _ _ hb rfl
              · refine mono.dutyT_of rfl ?_
                intro f W hR hO hD K hK
                have eL : mono.lit 153 f [] = ⟨#[f 0, f 1, f 2, f 3, f 4, f 5, f 6, f 7, f 8, f 9, f 10, f 11, f 12, f 13, f 14, f 15, f 16, f 17, f 18, f 19, f 20, f 21, f 22, f 23, f 24, f 25, f 26, f 27, f 28, f 29, f 30, f 31, f 32, f 33, f 34, f 35, f 36, f 37, f 38, f 39, f 40, f 41, f 42, f 43, f 44, f 45, f 46, f 47, f 48, f 49, f 50, f 51, f 52, f 53, f 54, f 55, f 56, f 57, f 58, f 59, f 60, f 61, f 62, f 63, f 64, f 65, f 66, f 67, f 68, f 69, f 70, f 71, f 72, f 73, f 74, f 75, f 76, f 77, f 78, f 79, f 80, f 81, f 82, f 83, f 84, f 85, f 86, f 87, f 88, f 89, f 90, f 91, f 92, f 93, f 94, f 95, f 96, f 97, f 98, f 99, f 100, f 101, f 102, f 103, f 104, f 105, f 106, f 107, f 108, f 109, f 110, f 111, f 112, f 113, f 114, f 115, f 116, f 117, f 118, f 119, f 120, f 121, f 122, f 123, f 124, f 125, f 126, f 127, f 128, f 129, f 130, f 131, f 132, f 133, f 134, f 135, f 136, f 137, f 138, f 139, f 140, f 141, f 142, f 143, f 144, f 145, f 146, f 147, f 148, f 149, f 150, f 151, f 152], []⟩ := rfl
                replace hK : ∀ v W', Below W.heap.size W W' → phRc x al kl PL gx alg clg D1 D2 K1 S1 S2 S3 S4 S5 S6 17 v W' → K ((mono.lit 153 f []).put (some 96) v) W' := hK
                rw [eL] at hK ⊢
                simp only [Act.put, List.setIfInBounds_toArray, List.set_cons_succ, List.set_cons_zero] at hK
                have q14 := hD 14 93 (by kernel_rfl) (by kernel_rfl)
                replace q14 : f 93 = (.string (S1 ++ S2 ++ S3)) := q14
                have q16 := hD 16 95 (by kernel_rfl) (by kernel_rfl)
                replace q16 : f 95 = (.string (S4)) := q16
                rw [q14, q16] at hK ⊢
                go_simp
                exact hK _ _ (Below.refl _ _) rfl
              · refine mono.dutyT_of rfl ?_
                intro f W hR hO hD K hK
                have eL : mono.lit 153 f [] = ⟨#[f 0, f 1, f 2, f 3, f 4, f 5, f 6, f 7, f 8, f 9, f 10, f 11, f 12, f 13, f 14, f 15, f 16, f 17, f 18, f 19, f 20, f 21, f 22, f 23, f 24, f 25, f 26, f 27, f 28, f 29, f 30, f 31, f 32, f 33, f 34, f 35, f 36, f 37, f 38, f 39, f 40, f 41, f 42, f 43, f 44, f 45, f 46, f 47, f 48, f 49, f 50, f 51, f 52, f 53, f 54, f 55, f 56, f 57, f 58, f 59, f 60, f 61, f 62, f 63, f 64, f 65, f 66, f 67, f 68, f 69, f 70, f 71, f 72, f 73, f 74, f 75, f 76, f 77, f 78, f 79, f 80, f 81, f 82, f 83, f 84, f 85, f 86, f 87, f 88, f 89, f 90, f 91, f 92, f 93, f 94, f 95, f 96, f 97, f 98, f 99, f 100, f 101, f 102, f 103, f 104, f 105, f 106, f 107, f 108, f 109, f 110, f 111, f 112, f 113, f 114, f 115, f 116, f 117, f 118, f 119, f 120, f 121, f 122, f 123, f 124, f 125, f 126, f 127, f 128, f 129, f 130, f 131, f 132, f 133, f 134, f 135, f 136, f 137, f 138, f 139, f 140, f 141, f 142, f 143, f 144, f 145, f 146, f 147, f 148, f 149, f 150, f 151, f 152], []⟩ := rfl
                replace hK : ∀ v W', Below W.heap.size W W' → phRc x al kl PL gx alg clg D1 D2 K1 S1 S2 S3 S4 S5 S6 18 v W' → K ((mono.lit 153 f []).put (some 97) v) W' := hK
                rw [eL] at hK ⊢
                simp only [Act.put, List.setIfInBounds_toArray, List.set_cons_succ, List.set_cons_zero] at hK
                have o8 : f 8 = (.pointer (some ⟨gx, 0, none⟩)) := hO 8 (by kernel_rfl)
                rw [o8] at hK ⊢
                go_simp
                exact hK _ _ (Below.refl _ _) rfl
              · refine mono.dutyT_of rfl ?_
                intro f W hR hO hD K hK
                have eL : mono.lit 153 f [] = ⟨#[f 0, f 1, f 2, f 3, f 4, f 5, f 6, f 7, f 8, f 9, f 10, f 11, f 12, f 13, f 14, f 15, f 16, f 17, f 18, f 19, f 20, f 21, f 22, f 23, f 24, f 25, f 26, f 27, f 28, f 29, f 30, f 31, f 32, f 33, f 34, f 35, f 36, f 37, f 38, f 39, f 40, f 41, f 42, f 43, f 44, f 45, f 46, f 47, f 48, f 49, f 50, f 51, f 52, f 53, f 54, f 55, f 56, f 57, f 58, f 59, f 60, f 61, f 62, f 63, f 64, f 65, f 66, f 67, f 68, f 69, f 70, f 71, f 72, f 73, f 74, f 75, f 76, f 77, f 78, f 79, f 80, f 81, f 82, f 83, f 84, f 85, f 86, f 87, f 88, f 89, f 90, f 91, f 92, f 93, f 94, f 95, f 96, f 97, f 98, f 99, f 100, f 101, f 102, f 103, f 104, f 105, f 106, f 107, f 108, f 109, f 110, f 111, f 112, f 113, f 114, f 115, f 116, f 117, f 118, f 119, f 120, f 121, f 122, f 123, f 124, f 125, f 126, f 127, f 128, f 129, f 130, f 131, f 132, f 133, f 134, f 135, f 136, f 137, f 138, f 139, f 140, f 141, f 142, f 143, f 144, f 145, f 146, f 147, f 148, f 149, f 150, f 151, f 152], []⟩ := rfl
                replace hK : ∀ v W', Below W.heap.size W W' → phRc x al kl PL gx alg clg D1 D2 K1 S1 S2 S3 S4 S5 S6 19 v W' → K ((mono.lit 153 f []).put (some 98) v) W' := hK
                rw [eL] at hK ⊢
                simp only [Act.put, List.setIfInBounds_toArray, List.set_cons_succ, List.set_cons_zero] at hK
                have q18 := hD 18 97 (by kernel_rfl) (by kernel_rfl)
                replace q18 : f 97 = (.pointer (some ⟨gx, 4, none⟩)) := q18
                rw [q18] at hK ⊢
                obtain ⟨x0, x1, x2, x3, x4, x5⟩ := hcel W hR
                go_simp
                exact hK _ _ (Below.refl _ _) rfl
              · refine mono.dutyT_of rfl ?_
                intro f W hR hO hD K hK
                have eL : mono.lit 153 f [] = ⟨#[f 0, f 1, f 2, f 3, f 4, f 5, f 6, f 7, f 8, f 9, f 10, f 11, f 12, f 13, f 14, f 15, f 16, f 17, f 18, f 19, f 20, f 21, f 22, f 23, f 24, f 25, f 26, f 27, f 28, f 29, f 30, f 31, f 32, f 33, f 34, f 35, f 36, f 37, f 38, f 39, f 40, f 41, f 42, f 43, f 44, f 45, f 46, f 47, f 48, f 49, f 50, f 51, f 52, f 53, f 54, f 55, f 56, f 57, f 58, f 59, f 60, f 61, f 62, f 63, f 64, f 65, f 66, f 67, f 68, f 69, f 70, f 71, f 72, f 73, f 74, f 75, f 76, f 77, f 78, f 79, f 80, f 81, f 82, f 83, f 84, f 85, f 86, f 87, f 88, f 89, f 90, f 91, f 92, f 93, f 94, f 95, f 96, f 97, f 98, f 99, f 100, f 101, f 102, f 103, f 104, f 105, f 106, f 107, f 108, f 109, f 110, f 111, f 112, f 113, f 114, f 115, f 116, f 117, f 118, f 119, f 120, f 121, f 122, f 123, f 124, f 125, f 126, f 127, f 128, f 129, f 130, f 131, f 132, f 133, f 134, f 135, f 136, f 137, f 138, f 139, f 140, f 141, f 142, f 143, f 144, f 145, f 146, f 147, f 148, f 149, f 150, f 151, f 152], []⟩ := rfl
                replace hK : ∀ v W', Below W.heap.size W W' → phRc x al kl PL gx alg clg D1 D2 K1 S1 S2 S3 S4 S5 S6 20 v W' → K ((mono.lit 153 f []).put (some 99) v) W' := hK
                rw [eL] at hK ⊢
                simp only [Act.put, List.setIfInBounds_toArray, List.set_cons_succ, List.set_cons_zero] at hK
                have q19 := hD 19 98 (by kernel_rfl) (by kernel_rfl)
                replace q19 : f 98 = (.int .i64 x.c) := q19
                rw [q19] at hK ⊢
                have cX := n5 W hR
                go_simp
                refine cX.mono ?_
                rintro e w9 ⟨rfl, hb⟩
                exact hK _ _ hb rfl
              · refine mono.dutyT_of rfl ?_
                intro f W hR hO hD K hK
                have eL : mono.lit 153 f [] = ⟨#[f 0, f 1, f 2, f 3, f 4, f 5, f 6, f 7, f 8, f 9, f 10, f 11, f 12, f 13, f 14, f 15, f 16, f 17, f 18, f 19, f 20, f 21, f 22, f 23, f 24, f 25, f 26, f 27, f 28, f 29, f 30, f 31, f 32, f 33, f 34, f 35, f 36, f 37, f 38, f 39, f 40, f 41, f 42, f 43, f 44, f 45, f 46, f 47, f 48, f 49, f 50, f 51, f 52, f 53, f 54, f 55, f 56, f 57, f 58, f 59, f 60, f 61, f 62, f 63, f 64, f 65, f 66, f 67, f 68, f 69, f 70, f 71, f 72, f 73, f 74, f 75, f 76, f 77, f 78, f 79, f 80, f 81, f 82, f 83, f 84, f 85, f 86, f 87, f 88, f 89, f 90, f 91, f 92, f 93, f 94, f 95, f 96, f 97, f 98, f 99, f 100, f 101, f 102, f 103, f 104, f 105, f 106, f 107, f 108, f 109, f 110, f 111, f 112, f 113, f 114, f 115, f 116, f 117, f 118, f 119, f 120, f 121, f 122, f 123, f 124, f 125, f 126, f 127, f 128, f 129, f 130, f 131, f 132, f 133, f 134, f 135, f 136, f 137, f 138, f 139, f 140, f 141, f 142, f 143, f 144, f 145, f 146, f 147, f 148, f 149, f 150, f 151, f 152], []⟩ := rfl
                replace hK : ∀ v W', Below W.heap.size W W' → phRc x al kl PL gx alg clg D1 D2 K1 S1 S2 S3 S4 S5 S6 21 v W' → K ((mono.lit 153 f []).put (some 100) v) W' := hK
                rw [eL] at hK ⊢
                simp only [Act.put, List.setIfInBounds_toArray, List.set_cons_succ, List.set_cons_zero] at hK
                have q17 := hD 17 96 (by kernel_rfl) (by kernel_rfl)
                replace q17 : f 96 = (.string (S1 ++ S2 ++ S3 ++ S4)) := q17
                have q20 := hD 20 99 (by kernel_rfl) (by kernel_rfl)
                replace q20 : f 99 = (.string (S5)) := q20
                rw [q17, q20] at hK ⊢
                go_simp
                exact hK _ _ (Below.refl _ _) rfl
              · refine mono.dutyT_of rfl ?_
                intro f W hR hO hD K hK
                have eL : mono.lit 153 f [] = ⟨#[f 0, f 1, f 2, f 3, f 4, f 5, f 6, f 7, f 8, f 9, f 10, f 11, f 12, f 13, f 14, f 15, f 16, f 17, f 18, f 19, f 20, f 21, f 22, f 23, f 24, f 25, f 26, f 27, f 28, f 29, f 30, f 31, f 32, f 33, f 34, f 35, f 36, f 37, f 38, f 39, f 40, f 41, f 42, f 43, f 44, f 45, f 46, f 47, f 48, f 49, f 50, f 51, f 52, f 53, f 54, f 55, f 56, f 57, f 58, f 59, f 60, f 61, f 62, f 63, f 64, f 65, f 66, f 67, f 68, f 69, f 70, f 71, f 72, f 73, f 74, f 75, f 76, f 77, f 78, f 79, f 80, f 81, f 82, f 83, f 84, f 85, f 86, f 87, f 88, f 89, f 90, f 91, f 92, f 93, f 94, f 95, f 96, f 97, f 98, f 99, f 100, f 101, f 102, f 103, f 104, f 105, f 106, f 107, f 108, f 109, f 110, f 111, f 112, f 113, f 114, f 115, f 116, f 117, f 118, f 119, f 120, f 121, f 122, f 123, f 124, f 125, f 126, f 127, f 128, f 129, f 130, f 131, f 132, f 133, f 134, f 135, f 136, f 137, f 138, f 139, f 140, f 141, f 142, f 143, f 144, f 145, f 146, f 147, f 148, f 149, f 150, f 151, f 152], []⟩ := rfl
                replace hK : ∀ v W', Below W.heap.size W W' → phRc x al kl PL gx alg clg D1 D2 K1 S1 S2 S3 S4 S5 S6 22 v W' → K ((mono.lit 153 f []).put (some 101) v) W' := hK
                rw [eL] at hK ⊢
                simp only [Act.put, List.setIfInBounds_toArray, List.set_cons_succ, List.set_cons_zero] at hK
                have o8 : f 8 = (.pointer (some ⟨gx, 0, none⟩)) := hO 8 (by kernel_rfl)
                rw [o8] at hK ⊢
                go_simp
                exact hK _ _ (Below.refl _ _) rfl
              · refine mono.dutyT_of rfl ?_
                intro f W hR hO hD K hK
                have eL : mono.lit 153 f [] = ⟨#[f 0, f 1, f 2, f 3, f 4, f 5, f 6, f 7, f 8, f 9, f 10, f 11, f 12, f 13, f 14, f 15, f 16, f 17, f 18, f 19, f 20, f 21, f 22, f 23, f 24, f 25, f 26, f 27, f 28, f 29, f 30, f 31, f 32, f 33, f 34, f 35, f 36, f 37, f 38, f 39, f 40, f 41, f 42, f 43, f 44, f 45, f 46, f 47, f 48, f 49, f 50, f 51, f 52, f 53, f 54, f 55, f 56, f 57, f 58, f 59, f 60, f 61, f 62, f 63, f 64, f 65, f 66, f 67, f 68, f 69, f 70, f 71, f 72, f 73, f 74, f 75, f 76, f 77, f 78, f 79, f 80, f 81, f 82, f 83, f 84, f 85, f 86, f 87, f 88, f 89, f 90, f 91, f 92, f 93, f 94, f 95, f 96, f 97, f 98, f 99, f 100, f 101, f 102, f 103, f 104, f 105, f 106, f 107, f 108, f 109, f 110, f 111, f 112, f 113, f 114, f 115, f 116, f 117, f 118, f 119, f 120, f 121, f 122, f 123, f 124, f 125, f 126, f 127, f 128, f 129, f 130, f 131, f 132, f 133, f 134, f 135, f 136, f 137, f 138, f 139, f 140, f 141, f 142, f 143, f 144, f 145, f 146, f 147, f 148, f 149, f 150, f 151, f 152], []⟩ := rfl
                replace hK : ∀ v W', Below W.heap.size W W' → phRc x al kl PL gx alg clg D1 D2 K1 S1 S2 S3 S4 S5 S6 23 v W' → K ((mono.lit 153 f []).put (some 102) v) W' := hK
                rw [eL] at hK ⊢
                simp only [Act.put, List.setIfInBounds_toArray, List.set_cons_succ, List.set_cons_zero] at hK
                have q22 := hD 22 101 (by kernel_rfl) (by kernel_rfl)
                replace q22 : f 101 = (.pointer (some ⟨gx, 5, none⟩)) := q22
                rw [q22] at hK ⊢
                obtain ⟨x0, x1, x2, x3, x4, x5⟩ := hcel W hR
                go_simp
                exact hK _ _ (Below.refl _ _) rfl
              · refine mono.dutyT_of rfl ?_
                intro f W hR hO hD K hK
                have eL : mono.lit 153 f [] = ⟨#[f 0, f 1, f 2, f 3, f 4, f 5, f 6, f 7, f 8, f 9, f 10, f 11, f 12, f 13, f 14, f 15, f 16, f 17, f 18, f 19, f 20, f 21, f 22, f 23, f 24, f 25, f 26, f 27, f 28, f 29, f 30, f 31, f 32, f 33, f 34, f 35, f 36, f 37, f 38, f 39, f 40, f 41, f 42, f 43, f 44, f 45, f 46, f 47, f 48, f 49, f 50, f 51, f 52, f 53, f 54, f 55, f 56, f 57, f 58, f 59, f 60, f 61, f 62, f 63, f 64, f 65, f 66, f 67, f 68, f 69, f 70, f 71, f 72, f 73, f 74, f 75, f 76, f 77, f 78, f 79, f 80, f 81, f 82, f 83, f 84, f 85, f 86, f 87, f 88, f 89, f 90, f 91, f 92, f 93, f 94, f 95, f 96, f 97, f 98, f 99, f 100, f 101, f 102, f 103, f 104, f 105, f 106, f 107, f 108, f 109, f 110, f 111, f 112, f 113, f 114, f 115, f 116, f 117, f 118, f 119, f 120, f 121, f 122, f 123, f 124, f 125, f 126, f 127, f 128, f 129, f 130, f 131, f 132, f 133, f 134, f 135, f 136, f 137, f 138, f 139, f 140, f 141, f 142, f 143, f 144, f 145, f 146, f 147, f 148, f 149, f 150, f 151, f 152], []⟩ := rfl
                replace hK : ∀ v W', Below W.heap.size W W' → phRc x al kl PL gx alg clg D1 D2 K1 S1 S2 S3 S4 S5 S6 24 v W' → K ((mono.lit 153 f []).put (some 103) v) W' := hK
                rw [eL] at hK ⊢
                simp only [Act.put, List.setIfInBounds_toArray, List.set_cons_succ, List.set_cons_zero] at hK
                have q23 := hD 23 102 (by kernel_rfl) (by kernel_rfl)
                replace q23 : f 102 = (.int .i64 x.s) := q23
                rw [q23] at hK ⊢
                have cX := n6 W hR
                go_simp
                refine cX.mono ?_
                rintro e w9 ⟨rfl, hb⟩
                exact hK _ _ hb rfl
              · refine mono.dutyT_of rfl ?_
                intro f W hR hO hD K hK
                have eL : mono.lit 153 f [] = ⟨#[f 0, f 1, f 2, f 3, f 4, f 5, f 6, f 7, f 8, f 9, f 10, f 11, f 12, f 13, f 14, f 15, f 16, f 17, f 18, f 19, f 20, f 21, f 22, f 23, f 24, f 25, f 26, f 27, f 28, f 29, f 30, f 31, f 32, f 33, f 34, f 35, f 36, f 37, f 38, f 39, f 40, f 41, f 42, f 43, f 44, f 45, f 46, f 47, f 48, f 49, f 50, f 51, f 52, f 53, f 54, f 55, f 56, f 57, f 58, f 59, f 60, f 61, f 62, f 63, f 64, f 65, f 66, f 67, f 68, f 69, f 70, f 71, f 72, f 73, f 74, f 75, f 76, f 77, f 78, f 79, f 80, f 81, f 82, f 83, f 84, f 85, f 86, f 87, f 88, f 89, f 90, f 91, f 92, f 93, f 94, f 95, f 96, f 97, f 98, f 99, f 100, f 101, f 102, f 103, f 104, f 105, f 106, f 107, f 108, f 109, f 110, f 111, f 112, f 113, f 114, f 115, f 116, f 117, f 118, f 119, f 120, f 121, f 122, f 123, f 124, f 125, f 126, f 127, f 128, f 129, f 130, f 131, f 132, f 133, f 134, f 135, f 136, f 137, f 138, f 139, f 140, f 141, f 142, f 143, f 144, f 145, f 146, f 147, f 148, f 149, f 150, f 151, f 152], []⟩ := rfl
                replace hK : ∀ v W', Below W.heap.size W W' → phRc x al kl PL gx alg clg D1 D2 K1 S1 S2 S3 S4 S5 S6 25 v W' → K ((mono.lit 153 f []).put (some 104) v) W' := hK
                rw [eL] at hK ⊢
                simp only [Act.put, List.setIfInBounds_toArray, List.set_cons_succ, List.set_cons_zero] at hK
                have q21 := hD 21 100 (by kernel_rfl) (by kernel_rfl)
                replace q21 : f 100 = (.string (S1 ++ S2 ++ S3 ++ S4 ++ S5)) := q21
                have q24 := hD 24 103 (by kernel_rfl) (by kernel_rfl)
                replace q24 : f 103 = (.string (S6)) := q24
                rw [q21, q24] at hK ⊢
                go_simp
                exact hK _ _ (Below.refl _ _) rfl
              · refine mono.dutyT_of rfl ?_
                intro f W hR hO hD K hK
                have eL : mono.lit 153 f [] = ⟨#[f 0, f 1, f 2, f 3, f 4, f 5, f 6, f 7, f 8, f 9, f 10, f 11, f 12, f 13, f 14, f 15, f 16, f 17, f 18, f 19, f 20, f 21, f 22, f 23, f 24, f 25, f 26, f 27, f 28, f 29, f 30, f 31, f 32, f 33, f 34, f 35, f 36, f 37, f 38, f 39, f 40, f 41, f 42, f 43, f 44, f 45, f 46, f 47, f 48, f 49, f 50, f 51, f 52, f 53, f 54, f 55, f 56, f 57, f 58, f 59, f 60, f 61, f 62, f 63, f 64, f 65, f 66, f 67, f 68, f 69, f 70, f 71, f 72, f 73, f 74, f 75, f 76, f 77, f 78, f 79, f 80, f 81, f 82, f 83, f 84, f 85, f 86, f 87, f 88, f 89, f 90, f 91, f 92, f 93, f 94, f 95, f 96, f 97, f 98, f 99, f 100, f 101, f 102, f 103, f 104, f 105, f 106, f 107, f 108, f 109, f 110, f 111, f 112, f 113, f 114, f 115, f 116, f 117, f 118, f 119, f 120, f 121, f 122, f 123, f 124, f 125, f 126, f 127, f 128, f 129, f 130, f 131, f 132, f 133, f 134, f 135, f 136, f 137, f 138, f 139, f 140, f 141, f 142, f 143, f 144, f 145, f 146, f 147, f 148, f 149, f 150, f 151, f 152], []⟩ := rfl
                replace hK : ∀ v W', Below W.heap.size W W' → phRc x al kl PL gx alg clg D1 D2 K1 S1 S2 S3 S4 S5 S6 26 v W' → K ((mono.lit 153 f []).put (some 105) v) W' := hK
                rw [eL] at hK ⊢
                simp only [Act.put, List.setIfInBounds_toArray, List.set_cons_succ, List.set_cons_zero] at hK
                have q4 := hD 4 83 (by kernel_rfl) (by kernel_rfl)
                replace q4 : f 83 = (.string (⟨#[99]⟩ ++ K1)) := q4
                have q25 := hD 25 104 (by kernel_rfl) (by kernel_rfl)
                replace q25 : f 104 = (.string (S1 ++ S2 ++ S3 ++ S4 ++ S5 ++ S6)) := q25
                rw [q4, q25] at hK ⊢
                go_simp
                exact hK _ _ (Below.refl _ _) rfl
              · refine mono.dutyT_of rfl ?_
                intro f W hR hO hD K hK
                have eL : mono.lit 153 f [] = ⟨#[f 0, f 1, f 2, f 3, f 4, f 5, f 6, f 7, f 8, f 9, f 10, f 11, f 12, f 13, f 14, f 15, f 16, f 17, f 18, f 19, f 20, f 21, f 22, f 23, f 24, f 25, f 26, f 27, f 28, f 29, f 30, f 31, f 32, f 33, f 34, f 35, f 36, f 37, f 38, f 39, f 40, f 41, f 42, f 43, f 44, f 45, f 46, f 47, f 48, f 49, f 50, f 51, f 52, f 53, f 54, f 55, f 56, f 57, f 58, f 59, f 60, f 61, f 62, f 63, f 64, f 65, f 66, f 67, f 68, f 69, f 70, f 71, f 72, f 73, f 74, f 75, f 76, f 77, f 78, f 79, f 80, f 81, f 82, f 83, f 84, f 85, f 86, f 87, f 88, f 89, f 90, f 91, f 92, f 93, f 94, f 95, f 96, f 97, f 98, f 99, f 100, f 101, f 102, f 103, f 104, f 105, f 106, f 107, f 108, f 109, f 110, f 111, f 112, f 113, f 114, f 115, f 116, f 117, f 118, f 119, f 120, f 121, f 122, f 123, f 124, f 125, f 126, f 127, f 128, f 129, f 130, f 131, f 132, f 133, f 134, f 135, f 136, f 137, f 138, f 139, f 140, f 141, f 142, f 143, f 144, f 145, f 146, f 147, f 148, f 149, f 150, f 151, f 152], []⟩ := rfl
                replace hK : ∀ v W', Below W.heap.size W W' → phRc x al kl PL gx alg clg D1 D2 K1 S1 S2 S3 S4 S5 S6 27 v W' → K ((mono.lit 153 f []).put (some 106) v) W' := hK
                rw [eL] at hK ⊢
                simp only [Act.put, List.setIfInBounds_toArray, List.set_cons_succ, List.set_cons_zero] at hK
                have q26 := hD 26 105 (by kernel_rfl) (by kernel_rfl)
                replace q26 : f 105 = (.agg #[.string (⟨#[99]⟩ ++ K1), .string (S1 ++ S2 ++ S3 ++ S4 ++ S5 ++ S6)]) := q26
                rw [q26] at hK ⊢
                go_simp
                exact hK _ _ (alloc_bR W _) ⟨_, rfl, heap_alloc_new W _⟩
              · intro f W hB hO hD
                have r0 := hO 0 (by kernel_rfl)
                have r1 := hO 1 (by kernel_rfl)
                have r2 := hO 2 (by kernel_rfl)
                have r3 := hO 3 (by kernel_rfl)
                have r4 := hO 4 (by kernel_rfl)
                have r5 := hO 5 (by kernel_rfl)
                have r6 := hO 6 (by kernel_rfl)
                have r7 := hO 7 (by kernel_rfl)
                have r8 := hO 8 (by kernel_rfl)
                have r9 := hO 9 (by kernel_rfl)
                have r10 := hO 10 (by kernel_rfl)
                have r11 := hO 11 (by kernel_rfl)
                have r12 := hO 12 (by kernel_rfl)
                have r13 := hO 13 (by kernel_rfl)
                have r14 := hO 14 (by kernel_rfl)
                have r15 := hO 15 (by kernel_rfl)
                have r16 := hO 16 (by kernel_rfl)
                have r17 := hO 17 (by kernel_rfl)
                have r18 := hO 18 (by kernel_rfl)
                have r19 := hO 19 (by kernel_rfl)
                have r20 := hO 20 (by kernel_rfl)
                have r21 := hO 21 (by kernel_rfl)
                have r22 := hO 22 (by kernel_rfl)
                have r23 := hO 23 (by kernel_rfl)
                have r24 := hO 24 (by kernel_rfl)
                have r25 := hO 25 (by kernel_rfl)
                have r26 := hO 26 (by kernel_rfl)
                have r27 := hO 27 (by kernel_rfl)
                have r28 := hO 28 (by kernel_rfl)
                have r29 := hO 29 (by kernel_rfl)
                have r30 := hO 30 (by kernel_rfl)
                have r31 := hO 31 (by kernel_rfl)
                have r32 := hO 32 (by kernel_rfl)
                have r33 := hO 33 (by kernel_rfl)
                have r34 := hO 34 (by kernel_rfl)
                have r35 := hO 35 (by kernel_rfl)
                have r36 := hO 36 (by kernel_rfl)
                have r37 := hO 37 (by kernel_rfl)
                have r38 := hO 38 (by kernel_rfl)
                have r39 := hO 39 (by kernel_rfl)
                have r40 := hO 40 (by kernel_rfl)
                have r41 := hO 41 (by kernel_rfl)
                have r42 := hO 42 (by kernel_rfl)
                have r43 := hO 43 (by kernel_rfl)
                have r44 := hO 44 (by kernel_rfl)
                have r45 := hO 45 (by kernel_rfl)
                have r46 := hO 46 (by kernel_rfl)
                have r47 := hO 47 (by kernel_rfl)
                have r48 := hO 48 (by kernel_rfl)
                have r49 := hO 49 (by kernel_rfl)
                have r50 := hO 50 (by kernel_rfl)
                have r51 := hO 51 (by kernel_rfl)
                have r52 := hO 52 (by kernel_rfl)
                have r53 := hO 53 (by kernel_rfl)
                have r54 := hO 54 (by kernel_rfl)
                have r55 := hO 55 (by kernel_rfl)
                have r56 := hO 56 (by kernel_rfl)
                have r57 := hO 57 (by kernel_rfl)
                have r58 := hO 58 (by kernel_rfl)
                have r59 := hO 59 (by kernel_rfl)
                have r60 := hO 60 (by kernel_rfl)
                have r61 := hO 61 (by kernel_rfl)
                have r62 := hO 62 (by kernel_rfl)
                have r63 := hO 63 (by kernel_rfl)
                have r64 := hO 64 (by kernel_rfl)
                have r65 := hO 65 (by kernel_rfl)
                have r66 := hO 66 (by kernel_rfl)
                have r67 := hO 67 (by kernel_rfl)
                have r68 := hO 68 (by kernel_rfl)
                have r69 := hO 69 (by kernel_rfl)
                have r70 := hO 70 (by kernel_rfl)
                have r71 := hO 71 (by kernel_rfl)
                have r72 := hO 72 (by kernel_rfl)
                have r73 := hO 73 (by kernel_rfl)
                have r74 := hO 74 (by kernel_rfl)
                have r75 := hO 75 (by kernel_rfl)
                have r76 := hO 76 (by kernel_rfl)
                have r77 := hO 77 (by kernel_rfl)
                have r78 := hO 78 (by kernel_rfl)
                have r79 := hD 0 79 (by decide) (by kernel_rfl)
                replace r79 : f 79 = (.slice al PL.length kl) := r79
                have r106 := hD 27 106 (by decide) (by kernel_rfl)
                obtain ⟨gs, es, hgs⟩ := r106
                have r107 := hO 107 (by kernel_rfl)
                have r108 := hO 108 (by kernel_rfl)
                have r109 := hO 109 (by kernel_rfl)
                have r110 := hO 110 (by kernel_rfl)
                have r111 := hO 111 (by kernel_rfl)
                have r112 := hO 112 (by kernel_rfl)
                have r113 := hO 113 (by kernel_rfl)
                have r114 := hO 114 (by kernel_rfl)
                have r115 := hO 115 (by kernel_rfl)
                have r116 := hO 116 (by kernel_rfl)
                have r117 := hO 117 (by kernel_rfl)
                have r118 := hO 118 (by kernel_rfl)
                have r119 := hO 119 (by kernel_rfl)
                have r120 := hO 120 (by kernel_rfl)
                have r121 := hO 121 (by kernel_rfl)
                have r122 := hO 122 (by kernel_rfl)
                have r123 := hO 123 (by kernel_rfl)
                have r124 := hO 124 (by kernel_rfl)
                have r125 := hO 125 (by kernel_rfl)
                have r126 := hO 126 (by kernel_rfl)
                have r127 := hO 127 (by kernel_rfl)
                have r128 := hO 128 (by kernel_rfl)
                have r129 := hO 129 (by kernel_rfl)
                have r130 := hO 130 (by kernel_rfl)
                have r131 := hO 131 (by kernel_rfl)
                have r132 := hO 132 (by kernel_rfl)
                have r133 := hO 133 (by kernel_rfl)
                have r134 := hO 134 (by kernel_rfl)
                have r135 := hO 135 (by kernel_rfl)
                have r136 := hO 136 (by kernel_rfl)
                have r137 := hO 137 (by kernel_rfl)
                have r138 := hO 138 (by kernel_rfl)
                have r139 := hO 139 (by kernel_rfl)
                have r140 := hO 140 (by kernel_rfl)
                have r141 := hO 141 (by kernel_rfl)
                have r142 := hO 142 (by kernel_rfl)
                have r143 := hO 143 (by kernel_rfl)
                have r144 := hO 144 (by kernel_rfl)
                have r145 := hO 145 (by kernel_rfl)
                have r146 := hO 146 (by kernel_rfl)
                have r147 := hO 147 (by kernel_rfl)
                have r148 := hO 148 (by kernel_rfl)
                have r149 := hO 149 (by kernel_rfl)
                have r150 := hO 150 (by kernel_rfl)
                have r151 := hO 151 (by kernel_rfl)
                have r152 := hO 152 (by kernel_rfl)
                have eL : mono.lit 153 f [] = ⟨#[f 0, f 1, f 2, f 3, f 4, f 5, f 6, f 7, f 8, f 9, f 10, f 11, f 12, f 13, f 14, f 15, f 16, f 17, f 18, f 19, f 20, f 21, f 22, f 23, f 24, f 25, f 26, f 27, f 28, f 29, f 30, f 31, f 32, f 33, f 34, f 35, f 36, f 37, f 38, f 39, f 40, f 41, f 42, f 43, f 44, f 45, f 46, f 47, f 48, f 49, f 50, f 51, f 52, f 53, f 54, f 55, f 56, f 57, f 58, f 59, f 60, f 61, f 62, f 63, f 64, f 65, f 66, f 67, f 68, f 69, f 70, f 71, f 72, f 73, f 74, f 75, f 76, f 77, f 78, f 79, f 80, f 81, f 82, f 83, f 84, f 85, f 86, f 87, f 88, f 89, f 90, f 91, f 92, f 93, f 94, f 95, f 96, f 97, f 98, f 99, f 100, f 101, f 102, f 103, f 104, f 105, f 106, f 107, f 108, f 109, f 110, f 111, f 112, f 113, f 114, f 115, f 116, f 117, f 118, f 119, f 120, f 121, f 122, f 123, f 124, f 125, f 126, f 127, f 128, f 129, f 130, f 131, f 132, f 133, f 134, f 135, f 136, f 137, f 138, f 139, f 140, f 141, f 142, f 143, f 144, f 145, f 146, f 147, f 148, f 149, f 150, f 151, f 152], []⟩ := rfl
                rw [eL, r0, r1, r2, r3, r4, r5, r6, r7, r8, r9, r10, r11, r12, r13, r14, r15, r16, r17, r18, r19, r20, r21, r22, r23, r24, r25, r26, r27, r28, r29, r30, r31, r32, r33, r34, r35, r36, r37, r38, r39, r40, r41, r42, r43, r44, r45, r46, r47, r48, r49, r50, r51, r52, r53, r54, r55, r56, r57, r58, r59, r60, r61, r62, r63, r64, r65, r66, r67, r68, r69, r70, r71, r72, r73, r74, r75, r76, r77, r78, r79, es, r107, r108, r109, r110, r111, r112, r113, r114, r115, r116, r117, r118, r119, r120, r121, r122, r123, r124, r125, r126, r127, r128, r129, r130, r131, r132, r133, r134, r135, r136, r137, r138, r139, r140, r141, r142, r143, r144, r145, r146, r147, r148, r149, r150, r151, r152]
                clear eL hO hD r0 r1 r2 r3 r4 r5 r6 r7 r8 r9 r10 r11 r12 r13 r14 r15 r16 r17 r18 r19 r20 r21 r22 r23 r24 r25 r26 r27 r28 r29 r30 r31 r32 r33 r34 r35 r36 r37 r38 r39 r40 r41 r42 r43 r44 r45 r46 r47 r48 r49 r50 r51 r52 r53 r54 r55 r56 r57 r58 r59 r60 r61 r62 r63 r64 r65 r66 r67 r68 r69 r70 r71 r72 r73 r74 r75 r76 r77 r78 r79 r107 r108 r109 r110 r111 r112 r113 r114 r115 r116 r117 r118 r119 r120 r121 r122 r123 r124 r125 r126 r127 r128 r129 r130 r131 r132 r133 r134 r135 r136 r137 r138 r139 r140 r141 r142 r143 r144 r145 r146 r147 r148 r149 r150 r151 r152
                change wpList _ _ _ (_ :: _ :: []) _ _
                have hBD := hwd.trans (hB.mono hwd.size)
                have hoD := own_belowG (own_belowG ho hDr) hB
                have hoE := hoD
                have hbE := hBD
                have hsE := hbE.size
                have hmn := many_at hgs
                go_wp2_with (at_builtin; refine wpList_append_own _ rfl (.tmp 79) (.tmp 106) 28 rfl w3.heap.size 44 i0 (.agg #[.string ⟨#[]⟩, .string ⟨#[]⟩]) 2 32 Try.underlying28 hin hz0 hz1 hz2 rfl (by decide) _ PL.length _ rfl hoE ⟨gs, 0, none⟩ 1 1 [.string (⟨#[99]⟩ ++ K1), .string (S1 ++ S2 ++ S3 ++ S4 ++ S5 ++ S6)] rfl rfl hmn (two_str _ _) (by unfold maxLen; omega) (by omega) hsE ?_; intro v6 w6 ho6 hg6 _)
                have ho7 : w6.ownsRow w3.heap.size 44 2 v6 (PL ++ [coP x]).length (pcs (PL ++ [coP x])) := by
                  rw [List.length_append, pcs_app, pcs_one, ← HK.out, ← HV.out]
                  exact ho6
                have hb7 := hbE.grown hg6 hsE (fun j hj => (hoE.lt j hj).1)
                exact ⟨⟨k + 1, PL ++ [coP x], by omega, by go_num, HP2, by simp; omega, HA3, ho7, hb7⟩, by simp [Go.RowKit.intOf]; omega⟩
          · have hlt' : ¬ (k : Int) < (cs.length : Int) := by omega
            rw [List.take_of_length_le (by omega)] at HP HA
            have hst : stF ⟨nc, nb, cs, bs, us⟩ = true := by
              rw [hfr, Bool.and_eq_true]
              exact ⟨List.all_eq_true.2 (fun x hx => decide_eq_true (HA.out x hx)), List.all_eq_true.2 (fun x hx => decide_eq_true (HAb.out x hx))⟩
            have eR := HRy hst
            clear HRn HRy hfr hst HA HAb hcs
            obtain ⟨S1, HS1⟩ : ∃ s, Hid (s = mk (numB nc.toNat)) := ⟨_, rfl⟩
            obtain ⟨S2, HS2⟩ : ∃ s, Hid (s = mk (numB nb.toNat)) := ⟨_, rfl⟩
            have HK : Hid (⟨#[110]⟩ = (nxP nc nb).k) := by show _ = _; rfl
            have HV : Hid (S1 ++ S2 = (nxP nc nb).v) := by
              show _ = _
              rw [HS1.out, HS2.out, mk_appR]
              unfold nxP
              congr 1
              simp [nmB]
            have z1 : S1.size ≤ 10 := by rw [HS1.out, mk_size]; exact numB_len
            have z2 : S2.size ≤ 10 := by rw [HS2.out, mk_size]; exact numB_len
            have y1 : ¬ 9223372036854775807 < S1.size + S2.size := by omega
            have hDr : Below wr.heap.size wr wr.drew := Below.drew (Below.refl _ _)
            have hcel : ∀ W, Below wr.drew.heap.size wr.drew W → W.cell? ⟨w.heap.size, 0, none⟩ = some (.int .i64 nc) ∧ W.cell? ⟨w.heap.size, 1, none⟩ = some (.int .i64 nb) := fun W h => by
              have hq := hX W (hb3r.trans ((hDr.trans (h.mono hDr.size)).mono hb3r.size))
              exact ⟨hq.1, hq.2.1⟩
            have n1 := fun W (_ : Below wr.drew.heap.size wr.drew W) => num15_any nc W (by omega) (by omega)
            have n2 := fun W (_ : Below wr.drew.heap.size wr.drew W) => num15_any nb W (by omega) (by omega)
            rw [← HS1.out] at n1
            rw [← HS2.out] at n2
            have hwd := hbl.trans (hDr.mono hbl.size)
            have HP2 : Hid (PL ++ [nxP nc nb] = bs.map brP ++ cs.map coP ++ [nxP nc nb] ++ (us.take 0).map cuP) := by show _ = _; rw [HP.out]; simp
            clear HP
            go_upto_region 20 with fail
            clear x0 x1 x2 x3 x4
            obtain ⟨gx, hgx⟩ : ∃ gx, Hid (gx = w.heap.size) := ⟨_, rfl⟩
            rw [← hgx.out] at hcel ⊢
            refine mono.region_monoT (phRn nc nb al kl PL gx S1 S2) 10 153 [] [0, 1, 2, 3, 4, 5, 6, 7, 8, 9] (by kernel_rfl) rfl rfl (by kernel_rfl) (by kernel_rfl) (by kernel_rfl) (by kernel_rfl) (by kernel_rfl) (by kernel_rfl) phRn_stays (.cons ?_ (.cons ?_ (.cons ?_ (.cons ?_ (.cons ?_ (.cons ?_ (.cons ?_ (.cons ?_ (.cons ?_ (.cons ?_ (.nil))))))))))) ?_
            · refine mono.dutyT_of rfl ?_
              intro f W hR hO hD K hK
              have eL : mono.lit 153 f [] = ⟨#[f 0, f 1, f 2, f 3, f 4, f 5, f 6, f 7, f 8, f 9, f 10, f 11, f 12, f 13, f 14, f 15, f 16, f 17, f 18, f 19, f 20, f 21, f 22, f 23, f 24, f 25, f 26, f 27, f 28, f 29, f 30, f 31, f 32, f 33, f 34, f 35, f 36, f 37, f 38, f 39, f 40, f 41, f 42, f 43, f 44, f 45, f 46, f 47, f 48, f 49, f 50, f 51, f 52, f 53, f 54, f 55, f 56, f 57, f 58, f 59, f 60, f 61, f 62, f 63, f 64, f 65, f 66, f 67, f 68, f 69, f 70, f 71, f 72, f 73, f 74, f 75, f 76, f 77, f 78, f 79, f 80, f 81, f 82, f 83, f 84, f 85, f 86, f 87, f 88, f 89, f 90, f 91, f 92, f 93, f 94, f 95, f 96, f 97, f 98, f 99, f 100, f 101, f 102, f 103, f 104, f 105, f 106, f 107, f 108, f 109, f 110, f 111, f 112, f 113, f 114, f 115, f 116, f 117, f 118, f 119, f 120, f 121, f 122, f 123, f 124, f 125, f 126, f 127, f 128, f 129, f 130, f 131, f 132, f 133, f 134, f 135, f 136, f 137, f 138, f 139, f 140, f 141, f 142, f 143, f 144, f 145, f 146, f 147, f 148, f 149, f 150, f 151, f 152], []⟩ := rfl
              replace hK : ∀ v W', Below W.heap.size W W' → phRn nc nb al kl PL gx S1 S2 0 v W' → K ((mono.lit 153 f []).put (some 108) v) W' := hK
              rw [eL] at hK ⊢
              simp only [Act.put, List.setIfInBounds_toArray, List.set_cons_succ, List.set_cons_zero] at hK
              have o4 : f 4 = (.slice al PL.length kl) := hO 4 (by kernel_rfl)
              rw [o4] at hK ⊢
              go_simp
              exact hK _ _ (Below.refl _ _) rfl
            · refine mono.dutyT_of rfl ?_
              intro f W hR hO hD K hK
              have eL : mono.lit 153 f [] = ⟨#[f 0, f 1, f 2, f 3, f 4, f 5, f 6, f 7, f 8, f 9, f 10, f 11, f 12, f 13, f 14, f 15, f 16, f 17, f 18, f 19, f 20, f 21, f 22, f 23, f 24, f 25, f 26, f 27, f 28, f 29, f 30, f 31, f 32, f 33, f 34, f 35, f 36, f 37, f 38, f 39, f 40, f 41, f 42, f 43, f 44, f 45, f 46, f 47, f 48, f 49, f 50, f 51, f 52, f 53, f 54, f 55, f 56, f 57, f 58, f 59, f 60, f 61, f 62, f 63, f 64, f 65, f 66, f 67, f 68, f 69, f 70, f 71, f 72, f 73, f 74, f 75, f 76, f 77, f 78, f 79, f 80, f 81, f 82, f 83, f 84, f 85, f 86, f 87, f 88, f 89, f 90, f 91, f 92, f 93, f 94, f 95, f 96, f 97, f 98, f 99, f 100, f 101, f 102, f 103, f 104, f 105, f 106, f 107, f 108, f 109, f 110, f 111, f 112, f 113, f 114, f 115, f 116, f 117, f 118, f 119, f 120, f 121, f 122, f 123, f 124, f 125, f 126, f 127, f 128, f 129, f 130, f 131, f 132, f 133, f 134, f 135, f 136, f 137, f 138, f 139, f 140, f 141, f 142, f 143, f 144, f 145, f 146, f 147, f 148, f 149, f 150, f 151, f 152], []⟩ := rfl
              replace hK : ∀ v W', Below W.heap.size W W' → phRn nc nb al kl PL gx S1 S2 1 v W' → K ((mono.lit 153 f []).put (some 109) v) W' := hK
              rw [eL] at hK ⊢
              simp only [Act.put, List.setIfInBounds_toArray, List.set_cons_succ, List.set_cons_zero] at hK
              have o1 : f 1 = (.pointer (some ⟨gx, 0, none⟩)) := hO 1 (by kernel_rfl)
              rw [o1] at hK ⊢
              go_simp
              exact hK _ _ (Below.refl _ _) rfl
            · refine mono.dutyT_of rfl ?_
              intro f W hR hO hD K hK
              have eL : mono.lit 153 f [] = ⟨#[f 0, f 1, f 2, f 3, f 4, f 5, f 6, f 7, f 8, f 9, f 10, f 11, f 12, f 13, f 14, f 15, f 16, f 17, f 18, f 19, f 20, f 21, f 22, f 23, f 24, f 25, f 26, f 27, f 28, f 29, f 30, f 31, f 32, f 33, f 34, f 35, f 36, f 37, f 38, f 39, f 40, f 41, f 42, f 43, f 44, f 45, f 46, f 47, f 48, f 49, f 50, f 51, f 52, f 53, f 54, f 55, f 56, f 57, f 58, f 59, f 60, f 61, f 62, f 63, f 64, f 65, f 66, f 67, f 68, f 69, f 70, f 71, f 72, f 73, f 74, f 75, f 76, f 77, f 78, f 79, f 80, f 81, f 82, f 83, f 84, f 85, f 86, f 87, f 88, f 89, f 90, f 91, f 92, f 93, f 94, f 95, f 96, f 97, f 98, f 99, f 100, f 101, f 102, f 103, f 104, f 105, f 106, f 107, f 108, f 109, f 110, f 111, f 112, f 113, f 114, f 115, f 116, f 117, f 118, f 119, f 120, f 121, f 122, f 123, f 124, f 125, f 126, f 127, f 128, f 129, f 130, f 131, f 132, f 133, f 134, f 135, f 136, f 137, f 138, f 139, f 140, f 141, f 142, f 143, f 144, f 145, f 146, f 147, f 148, f 149, f 150, f 151, f 152], []⟩ := rfl
              replace hK : ∀ v W', Below W.heap.size W W' → phRn nc nb al kl PL gx S1 S2 2 v W' → K ((mono.lit 153 f []).put (some 110) v) W' := hK
              rw [eL] at hK ⊢
              simp only [Act.put, List.setIfInBounds_toArray, List.set_cons_succ, List.set_cons_zero] at hK
              have q1 := hD 1 109 (by kernel_rfl) (by kernel_rfl)
              replace q1 : f 109 = (.pointer (some ⟨gx, 0, none⟩)) := q1
              rw [q1] at hK ⊢
              obtain ⟨x0, x1⟩ := hcel W hR
              go_simp
              exact hK _ _ (Below.refl _ _) rfl
            · refine mono.dutyT_of rfl ?_
              intro f W hR hO hD K hK
              have eL : mono.lit 153 f [] = ⟨#[f 0, f 1, f 2, f 3, f 4, f 5, f 6, f 7, f 8, f 9, f 10, f 11, f 12, f 13, f 14, f 15, f 16, f 17, f 18, f 19, f 20, f 21, f 22, f 23, f 24, f 25, f 26, f 27, f 28, f 29, f 30, f 31, f 32, f 33, f 34, f 35, f 36, f 37, f 38, f 39, f 40, f 41, f 42, f 43, f 44, f 45, f 46, f 47, f 48, f 49, f 50, f 51, f 52, f 53, f 54, f 55, f 56, f 57, f 58, f 59, f 60, f 61, f 62, f 63, f 64, f 65, f 66, f 67, f 68, f 69, f 70, f 71, f 72, f 73, f 74, f 75, f 76, f 77, f 78, f 79, f 80, f 81, f 82, f 83, f 84, f 85, f 86, f 87, f 88, f 89, f 90, f 91, f 92, f 93, f 94, f 95, f 96, f 97, f 98, f 99, f 100, f 101, f 102, f 103, f 104, f 105, f 106, f 107, f 108, f 109, f 110, f 111, f 112, f 113, f 114, f 115, f 116, f 117, f 118, f 119, f 120, f 121, f 122, f 123, f 124, f 125, f 126, f 127, f 128, f 129, f 130, f 131, f 132, f 133, f 134, f 135, f 136, f 137, f 138, f 139, f 140, f 141, f 142, f 143, f 144, f 145, f 146, f 147, f 148, f 149, f 150, f 151, f 152], []⟩ := rfl
              replace hK : ∀ v W', Below W.heap.size W W' → phRn nc nb al kl PL gx S1 S2 3 v W' → K ((mono.lit 153 f []).put (some 111) v) W' := hK
              rw [eL] at hK ⊢
              simp only [Act.put, List.setIfInBounds_toArray, List.set_cons_succ, List.set_cons_zero] at hK
              have q2 := hD 2 110 (by kernel_rfl) (by kernel_rfl)
              replace q2 : f 110 = (.int .i64 nc) := q2
              rw [q2] at hK ⊢
              have cX := n1 W hR
              go_simp
              refine cX.mono ?_
              rintro e w9 ⟨rfl, hb⟩
              exact hK _ _ hb rfl
            · refine mono.dutyT_of rfl ?_
              intro f W hR hO hD K hK
              have eL : mono.lit 153 f [] = ⟨#[f 0, f 1, f 2, f 3, f 4, f 5, f 6, f 7, f 8, f 9, f 10, f 11, f 12, f 13, f 14, f 15, f 16, f 17, f 18, f 19, f 20, f 21, f 22, f 23, f 24, f 25, f 26, f 27, f 28, f 29, f 30, f 31, f 32, f 33, f 34, f 35, f 36, f 37, f 38, f 39, f 40, f 41, f 42, f 43, f 44, f 45, f 46, f 47, f 48, f 49, f 50, f 51, f 52, f 53, f 54, f 55, f 56, f 57, f 58, f 59, f 60, f 61, f 62, f 63, f 64, f 65, f 66, f 67, f 68, f 69, f 70, f 71, f 72, f 73, f 74, f 75, f 76, f 77, f 78, f 79, f 80, f 81, f 82, f 83, f 84, f 85, f 86, f 87, f 88, f 89, f 90, f 91, f 92, f 93, f 94, f 95, f 96, f 97, f 98, f 99, f 100, f 101, f 102, f 103, f 104, f 105, f 106, f 107, f 108, f 109, f 110, f 111, f 112, f 113, f 114, f 115, f 116, f 117, f 118, f 119, f 120, f 121, f 122, f 123, f 124, f 125, f 126, f 127, f 128, f 129, f 130, f 131, f 132, f 133, f 134, f 135, f 136, f 137, f 138, f 139, f 140, f 141, f 142, f 143, f 144, f 145, f 146, f 147, f 148, f 149, f 150, f 151, f 152], []⟩ := rfl
              replace hK : ∀ v W', Below W.heap.size W W' → phRn nc nb al kl PL gx S1 S2 4 v W' → K ((mono.lit 153 f []).put (some 112) v) W' := hK
              rw [eL] at hK ⊢
              simp only [Act.put, List.setIfInBounds_toArray, List.set_cons_succ, List.set_cons_zero] at hK
              have o1 : f 1 = (.pointer (some ⟨gx, 0, none⟩)) := hO 1 (by kernel_rfl)
              rw [o1] at hK ⊢
              go_simp
              exact hK _ _ (Below.refl _ _) rfl
            · refine mono.dutyT_of rfl ?_
              intro f W hR hO hD K hK
              have eL : mono.lit 153 f [] = ⟨#[f 0, f 1, f 2, f 3, f 4, f 5, f 6, f 7, f 8, f 9, f 10, f 11, f 12, f 13, f 14, f 15, f 16, f 17, f 18, f 19, f 20, f 21, f 22, f 23, f 24, f 25, f 26, f 27, f 28, f 29, f 30, f 31, f 32, f 33, f 34, f 35, f 36, f 37, f 38, f 39, f 40, f 41, f 42, f 43, f 44, f 45, f 46, f 47, f 48, f 49, f 50, f 51, f 52, f 53, f 54, f 55, f 56, f 57, f 58, f 59, f 60, f 61, f 62, f 63, f 64, f 65, f 66, f 67, f 68, f 69, f 70, f 71, f 72, f 73, f 74, f 75, f 76, f 77, f 78, f 79, f 80, f 81, f 82, f 83, f 84, f 85, f 86, f 87, f 88, f 89, f 90, f 91, f 92, f 93, f 94, f 95, f 96, f 97, f 98, f 99, f 100, f 101, f 102, f 103, f 104, f 105, f 106, f 107, f 108, f 109, f 110, f 111, f 112, f 113, f 114, f 115, f 116, f 117, f 118, f 119, f 120, f 121, f 122, f 123, f 124, f 125, f 126, f 127, f 128, f 129, f 130, f 131, f 132, f 133, f 134, f 135, f 136, f 137, f 138, f 139, f 140, f 141, f 142, f 143, f 144, f 145, f 146, f 147, f 148, f 149, f 150, f 151, f 152], []⟩ := rfl
              replace hK : ∀ v W', Below W.heap.size W W' → phRn nc nb al kl PL gx S1 S2 5 v W' → K ((mono.lit 153 f []).put (some 113) v) W' := hK
              rw [eL] at hK ⊢
              simp only [Act.put, List.setIfInBounds_toArray, List.set_cons_succ, List.set_cons_zero] at hK
              have q4 := hD 4 112 (by kernel_rfl) (by kernel_rfl)
              replace q4 : f 112 = (.pointer (some ⟨gx, 1, none⟩)) := q4
              rw [q4] at hK ⊢
              obtain ⟨x0, x1⟩ := hcel W hR
              go_simp
              exact hK _ _ (Below.refl _ _) rfl
            · refine mono.dutyT_of rfl ?_
              intro f W hR hO hD K hK
              have eL : mono.lit 153 f [] = ⟨#[f 0, f 1, f 2, f 3, f 4, f 5, f 6, f 7, f 8, f 9, f 10, f 11, f 12, f 13, f 14, f 15, f 16, f 17, f 18, f 19, f 20, f 21, f 22, f 23, f 24, f 25, f 26, f 27, f 28, f 29, f 30, f 31, f 32, f 33, f 34, f 35, f 36, f 37, f 38, f 39, f 40, f 41, f 42, f 43, f 44, f 45, f 46, f 47, f 48, f 49, f 50, f 51, f 52, f 53, f 54, f 55, f 56, f 57, f 58, f 59, f 60, f 61, f 62, f 63, f 64, f 65, f 66, f 67, f 68, f 69, f 70, f 71, f 72, f 73, f 74, f 75, f 76, f 77, f 78, f 79, f 80, f 81, f 82, f 83, f 84, f 85, f 86, f 87, f 88, f 89, f 90, f 91, f 92, f 93, f 94, f 95, f 96, f 97, f 98, f 99, f 100, f 101, f 102, f 103, f 104, f 105, f 106, f 107, f 108, f 109, f 110, f 111, f 112, f 113, f 114, f 115, f 116, f 117, f 118, f 119, f 120, f 121, f 122, f 123, f 124, f 125, f 126, f 127, f 128, f 129, f 130, f 131, f 132, f 133, f 134, f 135, f 136, f 137, f 138, f 139, f 140, f 141, f 142, f 143, f 144, f 145, f 146, f 147, f 148, f 149, f 150, f 151, f 152], []⟩ := rfl
              replace hK : ∀ v W', Below W.heap.size W W' → phRn nc nb al kl PL gx S1 S2 6 v W' → K ((mono.lit 153 f []).put (some 114) v) W' := hK
              rw [eL] at hK ⊢
              simp only [Act.put, List.setIfInBounds_toArray, List.set_cons_succ, List.set_cons_zero] at hK
              have q5 := hD 5 113 (by kernel_rfl) (by kernel_rfl)
              replace q5 : f 113 = (.int .i64 nb) := q5
              rw [q5] at hK ⊢
              have cX := n2 W hR
              go_simp
              refine cX.mono ?_
              rintro e w9 ⟨rfl, hb⟩
              exact hK _ _ hb rfl
            · refine mono.dutyT_of rfl ?_
              intro f W hR hO hD K hK
              have eL : mono.lit 153 f [] = ⟨#[f 0, f 1, f 2, f 3, f 4, f 5, f 6, f 7, f 8, f 9, f 10, f 11, f 12, f 13, f 14, f 15, f 16, f 17, f 18, f 19, f 20, f 21, f 22, f 23, f 24, f 25, f 26, f 27, f 28, f 29, f 30, f 31, f 32, f 33, f 34, f 35, f 36, f 37, f 38, f 39, f 40, f 41, f 42, f 43, f 44, f 45, f 46, f 47, f 48, f 49, f 50, f 51, f 52, f 53, f 54, f 55, f 56, f 57, f 58, f 59, f 60, f 61, f 62, f 63, f 64, f 65, f 66, f 67, f 68, f 69, f 70, f 71, f 72, f 73, f 74, f 75, f 76, f 77, f 78, f 79, f 80, f 81, f 82, f 83, f 84, f 85, f 86, f 87, f 88, f 89, f 90, f 91, f 92, f 93, f 94, f 95, f 96, f 97, f 98, f 99, f 100, f 101, f 102, f 103, f 104, f 105, f 106, f 107, f 108, f 109, f 110, f 111, f 112, f 113, f 114, f 115, f 116, f 117, f 118, f 119, f 120, f 121, f 122, f 123, f 124, f 125, f 126, f 127, f 128, f 129, f 130, f 131, f 132, f 133, f 134, f 135, f 136, f 137, f 138, f 139, f 140, f 141, f 142, f 143, f 144, f 145, f 146, f 147, f 148, f 149, f 150, f 151, f 152], []⟩ := rfl
              replace hK : ∀ v W', Below W.heap.size W W' → phRn nc nb al kl PL gx S1 S2 7 v W' → K ((mono.lit 153 f []).put (some 115) v) W' := hK
              rw [eL] at hK ⊢
              simp only [Act.put, List.setIfInBounds_toArray, List.set_cons_succ, List.set_cons_zero] at hK
              have q3 := hD 3 111 (by kernel_rfl) (by kernel_rfl)
              replace q3 : f 111 = (.string (S1)) := q3
              have q6 := hD 6 114 (by kernel_rfl) (by kernel_rfl)
              replace q6 : f 114 = (.string (S2)) := q6
              rw [q3, q6] at hK ⊢
              go_simp
              exact hK _ _ (Below.refl _ _) rfl
            · refine mono.dutyT_of rfl ?_
              intro f W hR hO hD K hK
              have eL : mono.lit 153 f [] = ⟨#[f 0, f 1, f 2, f 3, f 4, f 5, f 6, f 7, f 8, f 9, f 10, f 11, f 12, f 13, f 14, f 15, f 16, f 17, f 18, f 19, f 20, f 21, f 22, f 23, f 24, f 25, f 26, f 27, f 28, f 29, f 30, f 31, f 32, f 33, f 34, f 35, f 36, f 37, f 38, f 39, f 40, f 41, f 42, f 43, f 44, f 45, f 46, f 47, f 48, f 49, f 50, f 51, f 52, f 53, f 54, f 55, f 56, f 57, f 58, f 59, f 60, f 61, f 62, f 63, f 64, f 65, f 66, f 67, f 68, f 69, f 70, f 71, f 72, f 73, f 74, f 75, f 76, f 77, f 78, f 79, f 80, f 81, f 82, f 83, f 84, f 85, f 86, f 87, f 88, f 89, f 90, f 91, f 92, f 93, f 94, f 95, f 96, f 97, f 98, f 99, f 100, f 101, f 102, f 103, f 104, f 105, f 106, f 107, f 108, f 109, f 110, f 111, f 112, f 113, f 114, f 115, f 116, f 117, f 118, f 119, f 120, f 121, f 122, f 123, f 124, f 125, f 126, f 127, f 128, f 129, f 130, f 131, f 132, f 133, f 134, f 135, f 136, f 137, f 138, f 139, f 140, f 141, f 142, f 143, f 144, f 145, f 146, f 147, f 148, f 149, f 150, f 151, f 152], []⟩ := rfl
              replace hK : ∀ v W', Below W.heap.size W W' → phRn nc nb al kl PL gx S1 S2 8 v W' → K ((mono.lit 153 f []).put (some 116) v) W' := hK
              rw [eL] at hK ⊢
              simp only [Act.put, List.setIfInBounds_toArray, List.set_cons_succ, List.set_cons_zero] at hK
              have q7 := hD 7 115 (by kernel_rfl) (by kernel_rfl)
              replace q7 : f 115 = (.string (S1 ++ S2)) := q7
              rw [q7] at hK ⊢
              go_simp
              exact hK _ _ (Below.refl _ _) rfl
            · refine mono.dutyT_of rfl ?_
              intro f W hR hO hD K hK
              have eL : mono.lit 153 f [] = ⟨#[f 0, f 1, f 2, f 3, f 4, f 5, f 6, f 7, f 8, f 9, f 10, f 11, f 12, f 13, f 14, f 15, f 16, f 17, f 18, f 19, f 20, f 21, f 22, f 23, f 24, f 25, f 26, f 27, f 28, f 29, f 30, f 31, f 32, f 33, f 34, f 35, f 36, f 37, f 38, f 39, f 40, f 41, f 42, f 43, f 44, f 45, f 46, f 47, f 48, f 49, f 50, f 51, f 52, f 53, f 54, f 55, f 56, f 57, f 58, f 59, f 60, f 61, f 62, f 63, f 64, f 65, f 66, f 67, f 68, f 69, f 70, f 71, f 72, f 73, f 74, f 75, f 76, f 77, f 78, f 79, f 80, f 81, f 82, f 83, f 84, f 85, f 86, f 87, f 88, f 89, f 90, f 91, f 92, f 93, f 94, f 95, f 96, f 97, f 98, f 99, f 100, f 101, f 102, f 103, f 104, f 105, f 106, f 107, f 108, f 109, f 110, f 111, f 112, f 113, f 114, f 115, f 116, f 117, f 118, f 119, f 120, f 121, f 122, f 123, f 124, f 125, f 126, f 127, f 128, f 129, f 130, f 131, f 132, f 133, f 134, f 135, f 136, f 137, f 138, f 139, f 140, f 141, f 142, f 143, f 144, f 145, f 146, f 147, f 148, f 149, f 150, f 151, f 152], []⟩ := rfl
              replace hK : ∀ v W', Below W.heap.size W W' → phRn nc nb al kl PL gx S1 S2 9 v W' → K ((mono.lit 153 f []).put (some 117) v) W' := hK
              rw [eL] at hK ⊢
              simp only [Act.put, List.setIfInBounds_toArray, List.set_cons_succ, List.set_cons_zero] at hK
              have q8 := hD 8 116 (by kernel_rfl) (by kernel_rfl)
              replace q8 : f 116 = (.agg #[.string ⟨#[110]⟩, .string (S1 ++ S2)]) := q8
              rw [q8] at hK ⊢
              go_simp
              exact hK _ _ (alloc_bR W _) ⟨_, rfl, heap_alloc_new W _⟩
            · intro f W hB hO hD
              have r0 := hO 0 (by kernel_rfl)
              have r1 := hO 1 (by kernel_rfl)
              have r2 := hO 2 (by kernel_rfl)
              have r3 := hO 3 (by kernel_rfl)
              have r4 := hO 4 (by kernel_rfl)
              have r5 := hO 5 (by kernel_rfl)
              have r6 := hO 6 (by kernel_rfl)
              have r7 := hO 7 (by kernel_rfl)
              have r8 := hO 8 (by kernel_rfl)
              have r9 := hO 9 (by kernel_rfl)
              have r10 := hO 10 (by kernel_rfl)
              have r11 := hO 11 (by kernel_rfl)
              have r12 := hO 12 (by kernel_rfl)
              have r13 := hO 13 (by kernel_rfl)
              have r14 := hO 14 (by kernel_rfl)
              have r15 := hO 15 (by kernel_rfl)
              have r16 := hO 16 (by kernel_rfl)
              have r17 := hO 17 (by kernel_rfl)
              have r18 := hO 18 (by kernel_rfl)
              have r19 := hO 19 (by kernel_rfl)
              have r20 := hO 20 (by kernel_rfl)
              have r21 := hO 21 (by kernel_rfl)
              have r22 := hO 22 (by kernel_rfl)
              have r23 := hO 23 (by kernel_rfl)
              have r24 := hO 24 (by kernel_rfl)
              have r25 := hO 25 (by kernel_rfl)
              have r26 := hO 26 (by kernel_rfl)
              have r27 := hO 27 (by kernel_rfl)
              have r28 := hO 28 (by kernel_rfl)
              have r29 := hO 29 (by kernel_rfl)
              have r30 := hO 30 (by kernel_rfl)
              have r31 := hO 31 (by kernel_rfl)
              have r32 := hO 32 (by kernel_rfl)
              have r33 := hO 33 (by kernel_rfl)
              have r34 := hO 34 (by kernel_rfl)
              have r35 := hO 35 (by kernel_rfl)
              have r36 := hO 36 (by kernel_rfl)
              have r37 := hO 37 (by kernel_rfl)
              have r38 := hO 38 (by kernel_rfl)
              have r39 := hO 39 (by kernel_rfl)
              have r40 := hO 40 (by kernel_rfl)
              have r41 := hO 41 (by kernel_rfl)
              have r42 := hO 42 (by kernel_rfl)
              have r43 := hO 43 (by kernel_rfl)
              have r44 := hO 44 (by kernel_rfl)
              have r45 := hO 45 (by kernel_rfl)
              have r46 := hO 46 (by kernel_rfl)
              have r47 := hO 47 (by kernel_rfl)
              have r48 := hO 48 (by kernel_rfl)
              have r49 := hO 49 (by kernel_rfl)
              have r50 := hO 50 (by kernel_rfl)
              have r51 := hO 51 (by kernel_rfl)
              have r52 := hO 52 (by kernel_rfl)
              have r53 := hO 53 (by kernel_rfl)
              have r54 := hO 54 (by kernel_rfl)
              have r55 := hO 55 (by kernel_rfl)
              have r56 := hO 56 (by kernel_rfl)
              have r57 := hO 57 (by kernel_rfl)
              have r58 := hO 58 (by kernel_rfl)
              have r59 := hO 59 (by kernel_rfl)
              have r60 := hO 60 (by kernel_rfl)
              have r61 := hO 61 (by kernel_rfl)
              have r62 := hO 62 (by kernel_rfl)
              have r63 := hO 63 (by kernel_rfl)
              have r64 := hO 64 (by kernel_rfl)
              have r65 := hO 65 (by kernel_rfl)
              have r66 := hO 66 (by kernel_rfl)
              have r67 := hO 67 (by kernel_rfl)
              have r68 := hO 68 (by kernel_rfl)
              have r69 := hO 69 (by kernel_rfl)
              have r70 := hO 70 (by kernel_rfl)
              have r71 := hO 71 (by kernel_rfl)
              have r72 := hO 72 (by kernel_rfl)
              have r73 := hO 73 (by kernel_rfl)
              have r74 := hO 74 (by kernel_rfl)
              have r75 := hO 75 (by kernel_rfl)
              have r76 := hO 76 (by kernel_rfl)
              have r77 := hO 77 (by kernel_rfl)
              have r78 := hO 78 (by kernel_rfl)
              have r79 := hO 79 (by kernel_rfl)
              have r80 := hO 80 (by kernel_rfl)
              have r81 := hO 81 (by kernel_rfl)
              have r82 := hO 82 (by kernel_rfl)
              have r83 := hO 83 (by kernel_rfl)
              have r84 := hO 84 (by kernel_rfl)
              have r85 := hO 85 (by kernel_rfl)
              have r86 := hO 86 (by kernel_rfl)
              have r87 := hO 87 (by kernel_rfl)
              have r88 := hO 88 (by kernel_rfl)
              have r89 := hO 89 (by kernel_rfl)
              have r90 := hO 90 (by kernel_rfl)
              have r91 := hO 91 (by kernel_rfl)
              have r92 := hO 92 (by kernel_rfl)
              have r93 := hO 93 (by kernel_rfl)
              have r94 := hO 94 (by kernel_rfl)
              have r95 := hO 95 (by kernel_rfl)
              have r96 := hO 96 (by kernel_rfl)
              have r97 := hO 97 (by kernel_rfl)
              have r98 := hO 98 (by kernel_rfl)
              have r99 := hO 99 (by kernel_rfl)
              have r100 := hO 100 (by kernel_rfl)
              have r101 := hO 101 (by kernel_rfl)
              have r102 := hO 102 (by kernel_rfl)
              have r103 := hO 103 (by kernel_rfl)
              have r104 := hO 104 (by kernel_rfl)
              have r105 := hO 105 (by kernel_rfl)
              have r106 := hO 106 (by kernel_rfl)
              have r107 := hO 107 (by kernel_rfl)
              have r108 := hD 0 108 (by decide) (by kernel_rfl)
              replace r108 : f 108 = (.slice al PL.length kl) := r108
              have r117 := hD 9 117 (by decide) (by kernel_rfl)
              obtain ⟨gs, es, hgs⟩ := r117
              have r118 := hO 118 (by kernel_rfl)
              have r119 := hO 119 (by kernel_rfl)
              have r120 := hO 120 (by kernel_rfl)
              have r121 := hO 121 (by kernel_rfl)
              have r122 := hO 122 (by kernel_rfl)
              have r123 := hO 123 (by kernel_rfl)
              have r124 := hO 124 (by kernel_rfl)
              have r125 := hO 125 (by kernel_rfl)
              have r126 := hO 126 (by kernel_rfl)
              have r127 := hO 127 (by kernel_rfl)
              have r128 := hO 128 (by kernel_rfl)
              have r129 := hO 129 (by kernel_rfl)
              have r130 := hO 130 (by kernel_rfl)
              have r131 := hO 131 (by kernel_rfl)
              have r132 := hO 132 (by kernel_rfl)
              have r133 := hO 133 (by kernel_rfl)
              have r134 := hO 134 (by kernel_rfl)
              have r135 := hO 135 (by kernel_rfl)
              have r136 := hO 136 (by kernel_rfl)
              have r137 := hO 137 (by kernel_rfl)
              have r138 := hO 138 (by kernel_rfl)
              have r139 := hO 139 (by kernel_rfl)
              have r140 := hO 140 (by kernel_rfl)
              have r141 := hO 141 (by kernel_rfl)
              have r142 := hO 142 (by kernel_rfl)
              have r143 := hO 143 (by kernel_rfl)
              have r144 := hO 144 (by kernel_rfl)
              have r145 := hO 145 (by kernel_rfl)
              have r146 := hO 146 (by kernel_rfl)
              have r147 := hO 147 (by kernel_rfl)
              have r148 := hO 148 (by kernel_rfl)
              have r149 := hO 149 (by kernel_rfl)
              have r150 := hO 150 (by kernel_rfl)
              have r151 := hO 151 (by kernel_rfl)
              have r152 := hO 152 (by kernel_rfl)
              have eL : mono.lit 153 f [] = ⟨#[f 0, f 1, f 2, f 3, f 4, f 5, f 6, f 7, f 8, f 9, f 10, f 11, f 12, f 13, f 14, f 15, f 16, f 17, f 18, f 19, f 20, f 21, f 22, f 23, f 24, f 25, f 26, f 27, f 28, f 29, f 30, f 31, f 32, f 33, f 34, f 35, f 36, f 37, f 38, f 39, f 40, f 41, f 42, f 43, f 44, f 45, f 46, f 47, f 48, f 49, f 50, f 51, f 52, f 53, f 54, f 55, f 56, f 57, f 58, f 59, f 60, f 61, f 62, f 63, f 64, f 65, f 66, f 67, f 68, f 69, f 70, f 71, f 72, f 73, f 74, f 75, f 76, f 77, f 78, f 79, f 80, f 81, f 82, f 83, f 84, f 85, f 86, f 87, f 88, f 89, f 90, f 91, f 92, f 93, f 94, f 95, f 96, f 97, f 98, f 99, f 100, f 101, f 102, f 103, f 104, f 105, f 106, f 107, f 108, f 109, f 110, f 111, f 112, f 113, f 114, f 115, f 116, f 117, f 118, f 119, f 120, f 121, f 122, f 123, f 124, f 125, f 126, f 127, f 128, f 129, f 130, f 131, f 132, f 133, f 134, f 135, f 136, f 137, f 138, f 139, f 140, f 141, f 142, f 143, f 144, f 145, f 146, f 147, f 148, f 149, f 150, f 151, f 152], []⟩ := rfl
              rw [eL, r0, r1, r2, r3, r4, r5, r6, r7, r8, r9, r10, r11, r12, r13, r14, r15, r16, r17, r18, r19, r20, r21, r22, r23, r24, r25, r26, r27, r28, r29, r30, r31, r32, r33, r34, r35, r36, r37, r38, r39, r40, r41, r42, r43, r44, r45, r46, r47, r48, r49, r50, r51, r52, r53, r54, r55, r56, r57, r58, r59, r60, r61, r62, r63, r64, r65, r66, r67, r68, r69, r70, r71, r72, r73, r74, r75, r76, r77, r78, r79, r80, r81, r82, r83, r84, r85, r86, r87, r88, r89, r90, r91, r92, r93, r94, r95, r96, r97, r98, r99, r100, r101, r102, r103, r104, r105, r106, r107, r108, es, r118, r119, r120, r121, r122, r123, r124, r125, r126, r127, r128, r129, r130, r131, r132, r133, r134, r135, r136, r137, r138, r139, r140, r141, r142, r143, r144, r145, r146, r147, r148, r149, r150, r151, r152]
              clear eL hO hD r0 r1 r2 r3 r4 r5 r6 r7 r8 r9 r10 r11 r12 r13 r14 r15 r16 r17 r18 r19 r20 r21 r22 r23 r24 r25 r26 r27 r28 r29 r30 r31 r32 r33 r34 r35 r36 r37 r38 r39 r40 r41 r42 r43 r44 r45 r46 r47 r48 r49 r50 r51 r52 r53 r54 r55 r56 r57 r58 r59 r60 r61 r62 r63 r64 r65 r66 r67 r68 r69 r70 r71 r72 r73 r74 r75 r76 r77 r78 r79 r80 r81 r82 r83 r84 r85 r86 r87 r88 r89 r90 r91 r92 r93 r94 r95 r96 r97 r98 r99 r100 r101 r102 r103 r104 r105 r106 r107 r108 r118 r119 r120 r121 r122 r123 r124 r125 r126 r127 r128 r129 r130 r131 r132 r133 r134 r135 r136 r137 r138 r139 r140 r141 r142 r143 r144 r145 r146 r147 r148 r149 r150 r151 r152
              change wpList _ _ _ (_ :: _ :: []) _ _
              have hBD := hwd.trans (hB.mono hwd.size)
              have hoD := own_belowG (own_belowG ho hDr) hB
              have hoE := hoD
              have hbE := hBD
              have hsE := hbE.size
              have hmn := many_at hgs
              go_wp2_with (at_builtin; refine wpList_append_own _ rfl (.tmp 108) (.tmp 117) 28 rfl w3.heap.size 44 i0 (.agg #[.string ⟨#[]⟩, .string ⟨#[]⟩]) 2 32 Try.underlying28 hin hz0 hz1 hz2 rfl (by decide) _ PL.length _ rfl hoE ⟨gs, 0, none⟩ 1 1 [.string (⟨#[110]⟩), .string (S1 ++ S2)] rfl rfl hmn (two_str _ _) (by unfold maxLen; omega) (by omega) hsE ?_; intro v6 w6 ho6 hg6 _)
              have ho7 : w6.ownsRow w3.heap.size 44 2 v6 (PL ++ [nxP nc nb]).length (pcs (PL ++ [nxP nc nb])) := by
                rw [List.length_append, pcs_app, pcs_one, ← HK.out, ← HV.out]
                exact ho6
              have hb7 := hbE.grown hg6 hsE (fun j hj => (hoE.lt j hj).1)
              rw [hgx.out]
              have hlp7 : (PL ++ [nxP nc nb]).length ≤ 321 := by simp; omega
              generalize PL ++ [nxP nc nb] = PM at *
              clear hcel n1 n2 HK HV HS1 HS2 z1 z2 y1 ho hoD hoE hbE hsE hBD hB hDr hwd ho6 hg6 hmn hgs es hgx hbl hb3r hBw hk hlt hlt' hPl
              go_wp2_with fail
              go_loopw [4, 13] (fun lv i wr => ∃ (k : Nat) (PL : List PaD), k ≤ us.length ∧ i = .int .i64 (k : Int) ∧ Hid (PL = bs.map brP ++ cs.map coP ++ [nxP nc nb] ++ (us.take k).map cuP) ∧ PL.length ≤ 330 ∧ wr.ownsRow w3.heap.size 44 2 lv PL.length (pcs PL) ∧ Below w3.heap.size w3 wr) (fun _ i _ => us.length - (Go.RowKit.intOf i).toNat)
              case atStart => exact ⟨0, PM, by omega, rfl, HP2, by omega, ho7, hb7⟩
              case round =>
                clear HP2 ho7 hb7 hlp7
                obtain ⟨k, PL, hk, rfl, HP, hPl, ho, hbl⟩ := hrel
                obtain ⟨al, kl, rfl⟩ := own_form ho
                have hb3r := hb3.trans (hbl.mono hb3.size)
                obtain ⟨x0, x1, x2, x3, x4⟩ := hX wr hb3r
                have hBw := hB3.trans (hbl.mono hB3.size)
                by_cases hlt : k < us.length
                · have hlt' : (k : Int) < (us.length : Int) := by omega
                  obtain ⟨g, off, rfl, hg, ⟨c0, c1, c2⟩⟩ := hus k us[k] (by simp [hlt])
                  rw [← hBw.cell (p := ⟨g, _, none⟩) hg] at c0 c1 c2
                  have hxo := qus us[k] (List.getElem_mem hlt)
                  have hlp : PL.length ≤ 329 := by
                    have := HP.out
                    rw [this]
                    simp only [List.length_append, List.length_map, List.length_take, List.length_cons, List.length_nil]
                    omega
                  have HP2 : Hid (PL ++ [cuP us[k]] = bs.map brP ++ cs.map coP ++ [nxP nc nb] ++ (us.take (k + 1)).map cuP) := by show _ = _; rw [HP.out, map_take_succ cuP us k hlt, List.append_assoc]
                  generalize us[k] = x at *
                  obtain ⟨qq1, qq2, qq3, qq4⟩ := cuF_facts hxo.2.2
                  have hal4 := alloc_bR wr (.cells #[.int .i64 x.c, .int .i64 x.b, .int .i64 x.s] 61)
                  have hnw4 := heap_alloc_new wr (.cells #[.int .i64 x.c, .int .i64 x.b, .int .i64 x.s] 61)
                  have ho4 := own_belowG ho hal4
                  have hbl4 := hbl.trans (hal4.mono hbl.size)
                  generalize hwa : wr.alloc (.cells #[.int .i64 x.c, .int .i64 x.b, .int .i64 x.s] 61) = wa at *
                  obtain ⟨K1, HK1⟩ : ∃ s, Hid (s = mk [UInt8.ofNat x.c.toNat]) := ⟨_, rfl⟩
                  obtain ⟨S1, HS1⟩ : ∃ s, Hid (s = mk (numB x.c.toNat)) := ⟨_, rfl⟩
                  obtain ⟨S2, HS2⟩ : ∃ s, Hid (s = mk (numB x.b.toNat)) := ⟨_, rfl⟩
                  obtain ⟨S3, HS3⟩ : ∃ s, Hid (s = mk (numB x.s.toNat)) := ⟨_, rfl⟩
                  have HK : Hid (⟨#[117]⟩ ++ K1 = (cuP x).k) := by show _ = _; rw [HK1.out]; exact mk_appR [117] _
                  have HV : Hid (S1 ++ S2 ++ S3 = (cuP x).v) := by
                    show _ = _
                    rw [HS1.out, HS2.out, HS3.out, mk_appR, mk_appR]
                    unfold cuP
                    congr 1
                    simp [nmB]
                  have z0 : K1.size ≤ 10 := by rw [HK1.out, mk_size]; simp
                  have z1 : S1.size ≤ 10 := by rw [HS1.out, mk_size]; exact numB_len
                  have z2 : S2.size ≤ 10 := by rw [HS2.out, mk_size]; exact numB_len
                  have z3 : S3.size ≤ 10 := by rw [HS3.out, mk_size]; exact numB_len
                  have y0 : ¬ 9223372036854775807 < 1 + K1.size := by omega
                  have y1 : ¬ 9223372036854775807 < S1.size + S2.size := by omega
                  have y2 : ¬ 9223372036854775807 < S1.size + S2.size + S3.size := by omega
                  have hwc : IntKind.u8.wrap x.c = x.c := by rw [IntKind.wrap_u8]; omega
                  have hDr : Below wa.heap.size wa wa.drew := Below.drew (Below.refl _ _)
                  have hcel : ∀ W, Below wa.drew.heap.size wa.drew W → W.cell? ⟨wr.heap.size, 0, none⟩ = some (.int .i64 x.c) ∧ W.cell? ⟨wr.heap.size, 1, none⟩ = some (.int .i64 x.b) ∧ W.cell? ⟨wr.heap.size, 2, none⟩ = some (.int .i64 x.s) := fun W h => by
                    have q := fun j => cell_of_row W wr.heap.size j _ _ (0, 0) (((hDr.trans (h.mono hDr.size)).block _ (heap_lt hnw4)).trans hnw4)
                    exact ⟨q 0, q 1, q 2⟩
                  have n0 : ∀ (g : Nat) (W : World), W.heap[g]? = some (.cells #[.int .u8 x.c] 5) → (convert 52 9 (.slice (some ⟨g, 0, none⟩) 1 1)).run Try.prog W = .ok (.string K1) W := fun g W h => by
                    rw [HK1.out]
                    refine key_conv (key := [UInt8.ofNat x.c.toNat]) ?_
                    have e2 : (((UInt8.ofNat x.c.toNat).toNat : Nat) : Int) = x.c := by rw [UInt8.toNat_ofNat']; omega
                    simp only [bv, List.map_cons, List.map_nil, e2]
                    exact h
                  have n1 := fun W (_ : Below wa.drew.heap.size wa.drew W) => num15_any x.c W (by omega) (by omega)
                  have n2 := fun W (_ : Below wa.drew.heap.size wa.drew W) => num15_any x.b W (by omega) (by omega)
                  have n3 := fun W (_ : Below wa.drew.heap.size wa.drew W) => num15_any x.s W (by omega) (by omega)
                  rw [← HS1.out] at n1
                  rw [← HS2.out] at n2
                  rw [← HS3.out] at n3
                  have hwd := hbl4.trans (hDr.mono hbl4.size)
                  clear hus hnw4 ho HP
                  have ho := ho4
                  clear ho4
                  go_upto_region 25 with fail
                  clear c0 c1 c2 x0 x1 x2 x3 x4 hwa
                  generalize wr.heap.size = gx at *
                  refine mono.region_monoT (phRu x al kl PL gx K1 S1 S2 S3) 20 153 [] [0, 1, 2, 3, 4, 5, 6, 7, 8, 9, 10, 11, 12, 13, 14, 15, 16, 17, 18, 19] (by kernel_rfl) rfl rfl (by kernel_rfl) (by kernel_rfl) (by kernel_rfl) (by kernel_rfl) (by kernel_rfl) (by kernel_rfl) phRu_stays (.cons ?_ (.cons ?_ (.cons ?_ (.cons ?_ (.cons ?_ (.cons ?_ (.cons ?_ (.cons ?_ (.cons ?_ (.cons ?_ (.cons ?_ (.cons ?_ (.cons ?_ (.cons ?_ (.cons ?_ (.cons ?_ (.cons ?_ (.cons ?_ (.cons ?_ (.cons ?_ (.nil))))))))))))))))))))) ?_
                  · refine mono.dutyT_of rfl ?_
                    intro f W hR hO hD K hK
                    have eL : mono.lit 153 f [] = ⟨#[f 0, f 1, f 2, f 3, f 4, f 5, f 6, f 7, f 8, f 9, f 10, f 11, f 12, f 13, f 14, f 15, f 16, f 17, f 18, f 19, f 20, f 21, f 22, f 23, f 24, f 25, f 26, f 27, f 28, f 29, f 30, f 31, f 32, f 33, f 34, f 35, f 36, f 37, f 38, f 39, f 40, f 41, f 42, f 43, f 44, f 45, f 46, f 47, f 48, f 49, f 50, f 51, f 52, f 53, f 54, f 55, f 56, f 57, f 58, f 59, f 60, f 61, f 62, f 63, f 64, f 65, f 66, f 67, f 68, f 69, f 70, f 71, f 72, f 73, f 74, f 75, f 76, f 77, f 78, f 79, f 80, f 81, f 82, f 83, f 84, f 85, f 86, f 87, f 88, f 89, f 90, f 91, f 92, f 93, f 94, f 95, f 96, f 97, f 98, f 99, f 100, f 101, f 102, f 103, f 104, f 105, f 106, f 107, f 108, f 109, f 110, f 111, f 112, f 113, f 114, f 115, f 116, f 117, f 118, f 119, f 120, f 121, f 122, f 123, f 124, f 125, f 126, f 127, f 128, f 129, f 130, f 131, f 132, f 133, f 134, f 135, f 136, f 137, f 138, f 139, f 140, f 141, f 142, f 143, f 144, f 145, f 146, f 147, f 148, f 149, f 150, f 151, f 152], []⟩ := rfl
                    replace hK : ∀ v W', Below W.heap.size W W' → phRu x al kl PL gx K1 S1 S2 S3 0 v W' → K ((mono.lit 153 f []).put (some 131) v) W' := hK
                    rw [eL] at hK ⊢
                    simp only [Act.put, List.setIfInBounds_toArray, List.set_cons_succ, List.set_cons_zero] at hK
                    have o4 : f 4 = (.slice al PL.length kl) := hO 4 (by kernel_rfl)
                    rw [o4] at hK ⊢
                    go_simp
                    exact hK _ _ (Below.refl _ _) rfl
                  · refine mono.dutyT_of rfl ?_
                    intro f W hR hO hD K hK
                    have eL : mono.lit 153 f [] = ⟨#[f 0, f 1, f 2, f 3, f 4, f 5, f 6, f 7, f 8, f 9, f 10, f 11, f 12, f 13, f 14, f 15, f 16, f 17, f 18, f 19, f 20, f 21, f 22, f 23, f 24, f 25, f 26, f 27, f 28, f 29, f 30, f 31, f 32, f 33, f 34, f 35, f 36, f 37, f 38, f 39, f 40, f 41, f 42, f 43, f 44, f 45, f 46, f 47, f 48, f 49, f 50, f 51, f 52, f 53, f 54, f 55, f 56, f 57, f 58, f 59, f 60, f 61, f 62, f 63, f 64, f 65, f 66, f 67, f 68, f 69, f 70, f 71, f 72, f 73, f 74, f 75, f 76, f 77, f 78, f 79, f 80, f 81, f 82, f 83, f 84, f 85, f 86, f 87, f 88, f 89, f 90, f 91, f 92, f 93, f 94, f 95, f 96, f 97, f 98, f 99, f 100, f 101, f 102, f 103, f 104, f 105, f 106, f 107, f 108, f 109, f 110, f 111, f 112, f 113, f 114, f 115, f 116, f 117, f 118, f 119, f 120, f 121, f 122, f 123, f 124, f 125, f 126, f 127, f 128, f 129, f 130, f 131, f 132, f 133, f 134, f 135, f 136, f 137, f 138, f 139, f 140, f 141, f 142, f 143, f 144, f 145, f 146, f 147, f 148, f 149, f 150, f 151, f 152], []⟩ := rfl
                    replace hK : ∀ v W', Below W.heap.size W W' → phRu x al kl PL gx K1 S1 S2 S3 1 v W' → K ((mono.lit 153 f []).put (some 132) v) W' := hK
                    rw [eL] at hK ⊢
                    simp only [Act.put, List.setIfInBounds_toArray, List.set_cons_succ, List.set_cons_zero] at hK
                    have o14 : f 14 = (.pointer (some ⟨gx, 0, none⟩)) := hO 14 (by kernel_rfl)
                    rw [o14] at hK ⊢
                    go_simp
                    exact hK _ _ (Below.refl _ _) rfl
                  · refine mono.dutyT_of rfl ?_
                    intro f W hR hO hD K hK
                    have eL : mono.lit 153 f [] = ⟨#[f 0, f 1, f 2, f 3, f 4, f 5, f 6, f 7, f 8, f 9, f 10, f 11, f 12, f 13, f 14, f 15, f 16, f 17, f 18, f 19, f 20, f 21, f 22, f 23, f 24, f 25, f 26, f 27, f 28, f 29, f 30, f 31, f 32, f 33, f 34, f 35, f 36, f 37, f 38, f 39, f 40, f 41, f 42, f 43, f 44, f 45, f 46, f 47, f 48, f 49, f 50, f 51, f 52, f 53, f 54, f 55, f 56, f 57, f 58, f 59, f 60, f 61, f 62, f 63, f 64, f 65, f 66, f 67, f 68, f 69, f 70, f 71, f 72, f 73, f 74, f 75, f 76, f 77, f 78, f 79, f 80, f 81, f 82, f 83, f 84, f 85, f 86, f 87, f 88, f 89, f 90, f 91, f 92, f 93, f 94, f 95, f 96, f 97, f 98, f 99, f 100, f 101, f 102, f 103, f 104, f 105, f 106, f 107, f 108, f 109, f 110, f 111, f 112, f 113, f 114, f 115, f 116, f 117, f 118, f 119, f 120, f 121, f 122, f 123, f 124, f 125, f 126, f 127, f 128, f 129, f 130, f 131, f 132, f 133, f 134, f 135, f 136, f 137, f 138, f 139, f 140, f 141, f 142, f 143, f 144, f 145, f 146, f 147, f 148, f 149, f 150, f 151, f 152], []⟩ := rfl
                    replace hK : ∀ v W', Below W.heap.size W W' → phRu x al kl PL gx K1 S1 S2 S3 2 v W' → K ((mono.lit 153 f []).put (some 133) v) W' := hK
                    rw [eL] at hK ⊢
                    simp only [Act.put, List.setIfInBounds_toArray, List.set_cons_succ, List.set_cons_zero] at hK
                    have q1 := hD 1 132 (by kernel_rfl) (by kernel_rfl)
                    replace q1 : f 132 = (.pointer (some ⟨gx, 0, none⟩)) := q1
                    rw [q1] at hK ⊢
                    obtain ⟨x0, x1, x2⟩ := hcel W hR
                    go_simp
                    exact hK _ _ (Below.refl _ _) rfl
                  · refine mono.dutyT_of rfl ?_
                    intro f W hR hO hD K hK
                    have eL : mono.lit 153 f [] = ⟨#[f 0, f 1, f 2, f 3, f 4, f 5, f 6, f 7, f 8, f 9, f 10, f 11, f 12, f 13, f 14, f 15, f 16, f 17, f 18, f 19, f 20, f 21, f 22, f 23, f 24, f 25, f 26, f 27, f 28, f 29, f 30, f 31, f 32, f 33, f 34, f 35, f 36, f 37, f 38, f 39, f 40, f 41, f 42, f 43, f 44, f 45, f 46, f 47, f 48, f 49, f 50, f 51, f 52, f 53, f 54, f 55, f 56, f 57, f 58, f 59, f 60, f 61, f 62, f 63, f 64, f 65, f 66, f 67, f 68, f 69, f 70, f 71, f 72, f 73, f 74, f 75, f 76, f 77, f 78, f 79, f 80, f 81, f 82, f 83, f 84, f 85, f 86, f 87, f 88, f 89, f 90, f 91, f 92, f 93, f 94, f 95, f 96, f 97, f 98, f 99, f 100, f 101, f 102, f 103, f 104, f 105, f 106, f 107, f 108, f 109, f 110, f 111, f 112, f 113, f 114, f 115, f 116, f 117, f 118, f 119, f 120, f 121, f 122, f 123, f 124, f 125, f 126, f 127, f 128, f 129, f 130, f 131, f 132, f 133, f 134, f 135, f 136, f 137, f 138, f 139, f 140, f 141, f 142, f 143, f 144, f 145, f 146, f 147, f 148, f 149, f 150, f 151, f 152], []⟩ := rfl
                    replace hK : ∀ v W', Below W.heap.size W W' → phRu x al kl PL gx K1 S1 S2 S3 3 v W' → K ((mono.lit 153 f []).put (some 134) v) W' := hK
                    rw [eL] at hK ⊢
                    simp only [Act.put, List.setIfInBounds_toArray, List.set_cons_succ, List.set_cons_zero] at hK
                    have q2 := hD 2 133 (by kernel_rfl) (by kernel_rfl)
                    replace q2 : f 133 = (.int .i64 x.c) := q2
                    rw [q2] at hK ⊢
                    go_simp
                    exact hK _ _ (Below.refl _ _) rfl
                  · refine mono.dutyT_of rfl ?_
                    intro f W hR hO hD K hK
                    have eL : mono.lit 153 f [] = ⟨#[f 0, f 1, f 2, f 3, f 4, f 5, f 6, f 7, f 8, f 9, f 10, f 11, f 12, f 13, f 14, f 15, f 16, f 17, f 18, f 19, f 20, f 21, f 22, f 23, f 24, f 25, f 26, f 27, f 28, f 29, f 30, f 31, f 32, f 33, f 34, f 35, f 36, f 37, f 38, f 39, f 40, f 41, f 42, f 43, f 44, f 45, f 46, f 47, f 48, f 49, f 50, f 51, f 52, f 53, f 54, f 55, f 56, f 57, f 58, f 59, f 60, f 61, f 62, f 63, f 64, f 65, f 66, f 67, f 68, f 69, f 70, f 71, f 72, f 73, f 74, f 75, f 76, f 77, f 78, f 79, f 80, f 81, f 82, f 83, f 84, f 85, f 86, f 87, f 88, f 89, f 90, f 91, f 92, f 93, f 94, f 95, f 96, f 97, f 98, f 99, f 100, f 101, f 102, f 103, f 104, f 105, f 106, f 107, f 108, f 109, f 110, f 111, f 112, f 113, f 114, f 115, f 116, f 117, f 118, f 119, f 120, f 121, f 122, f 123, f 124, f 125, f 126, f 127, f 128, f 129, f 130, f 131, f 132, f 133, f 134, f 135, f 136, f 137, f 138, f 139, f 140, f 141, f 142, f 143, f 144, f 145, f 146, f 147, f 148, f 149, f 150, f 151, f 152], []⟩ := rfl
                    replace hK : ∀ v W', Below W.heap.size W W' → phRu x al kl PL gx K1 S1 S2 S3 4 v W' → K ((mono.lit 153 f []).put (some 135) v) W' := hK
                    rw [eL] at hK ⊢
                    simp only [Act.put, List.setIfInBounds_toArray, List.set_cons_succ, List.set_cons_zero] at hK
                    have q3 := hD 3 134 (by kernel_rfl) (by kernel_rfl)
                    replace q3 : f 134 = (.int .u8 x.c) := q3
                    rw [q3] at hK ⊢
                    go_simp
                    exact hK _ _ (alloc_bR W _) ⟨_, rfl, heap_alloc_new W _⟩
                  · refine mono.dutyT_of rfl ?_
                    intro f W hR hO hD K hK
                    have eL : mono.lit 153 f [] = ⟨#[f 0, f 1, f 2, f 3, f 4, f 5, f 6, f 7, f 8, f 9, f 10, f 11, f 12, f 13, f 14, f 15, f 16, f 17, f 18, f 19, f 20, f 21, f 22, f 23, f 24, f 25, f 26, f 27, f 28, f 29, f 30, f 31, f 32, f 33, f 34, f 35, f 36, f 37, f 38, f 39, f 40, f 41, f 42, f 43, f 44, f 45, f 46, f 47, f 48, f 49, f 50, f 51, f 52, f 53, f 54, f 55, f 56, f 57, f 58, f 59, f 60, f 61, f 62, f 63, f 64, f 65, f 66, f 67, f 68, f 69, f 70, f 71, f 72, f 73, f 74, f 75, f 76, f 77, f 78, f 79, f 80, f 81, f 82, f 83, f 84, f 85, f 86, f 87, f 88, f 89, f 90, f 91, f 92, f 93, f 94, f 95, f 96, f 97, f 98, f 99, f 100, f 101, f 102, f 103, f 104, f 105, f 106, f 107, f 108, f 109, f 110, f 111, f 112, f 113, f 114, f 115, f 116, f 117, f 118, f 119, f 120, f 121, f 122, f 123, f 124, f 125, f 126, f 127, f 128, f 129, f 130, f 131, f 132, f 133, f 134, f 135, f 136, f 137, f 138, f 139, f 140, f 141, f 142, f 143, f 144, f 145, f 146, f 147, f 148, f 149, f 150, f 151, f 152], []⟩ := rfl
                    replace hK : ∀ v W', Below W.heap.size W W' → phRu x al kl PL gx K1 S1 S2 S3 5 v W' → K ((mono.lit 153 f []).put (some 136) v) W' := hK
                    rw [eL] at hK ⊢
                    simp only [Act.put, List.setIfInBounds_toArray, List.set_cons_succ, List.set_cons_zero] at hK
                    have q4 := hD 4 135 (by kernel_rfl) (by kernel_rfl)
                    obtain ⟨g4, e4, hg4⟩ := q4
                    rw [e4] at hK ⊢
                    have hcv := n0 g4 W hg4
                    go_simp
                    exact hK _ _ (Below.refl _ _) rfl
                  · refine mono.dutyT_of rfl ?_
                    intro f W hR hO hD K hK
                    have eL : mono.lit 153 f [] = ⟨#[f 0, f 1, f 2, f 3, f 4, f 5, f 6, f 7, f 8, f 9, f 10, f 11, f 12, f 13, f 14, f 15, f 16, f 17, f 18, f 19, f 20, f 21, f 22, f 23, f 24, f 25, f 26, f 27, f 28, f 29, f 30, f 31, f 32, f 33, f 34, f 35, f 36, f 37, f 38, f 39, f 40, f 41, f 42, f 43, f 44, f 45, f 46, f 47, f 48, f 49, f 50, f 51, f 52, f 53, f 54, f 55, f 56, f 57, f 58, f 59, f 60, f 61, f 62, f 63, f 64, f 65, f 66, f 67, f 68, f 69, f 70, f 71, f 72, f 73, f 74, f 75, f 76, f 77, f 78, f 79, f 80, f 81, f 82, f 83, f 84, f 85, f 86, f 87, f 88, f 89, f 90, f 91, f 92, f 93, f 94, f 95, f 96, f 97, f 98, f 99, f 100, f 101, f 102, f 103, f 104, f 105, f 106, f 107, f 108, f 109, f 110, f 111, f 112, f 113, f 114, f 115, f 116, f 117, f 118, f 119, f 120, f 121, f 122, f 123, f 124, f 125, f 126, f 127, f 128, f 129, f 130, f 131, f 132, f 133, f 134, f 135, f 136, f 137, f 138, f 139, f 140, f 141, f 142, f 143, f 144, f 145, f 146, f 147, f 148, f 149, f 150, f 151, f 152], []⟩ := rfl
                    replace hK : ∀ v W', Below W.heap.size W W' → phRu x al kl PL gx K1 S1 S2 S3 6 v W' → K ((mono.lit 153 f []).put (some 137) v) W' := hK
                    rw [eL] at hK ⊢
                    simp only [Act.put, List.setIfInBounds_toArray, List.set_cons_succ, List.set_cons_zero] at hK
                    have q5 := hD 5 136 (by kernel_rfl) (by kernel_rfl)
                    replace q5 : f 136 = (.string (K1)) := q5
                    rw [q5] at hK ⊢
                    go_simp
                    exact hK _ _ (Below.refl _ _) rfl
                  · refine mono.dutyT_of rfl ?_
                    intro f W hR hO hD K hK
                    have eL : mono.lit 153 f [] = ⟨#[f 0, f 1, f 2, f 3, f 4, f 5, f 6, f 7, f 8, f 9, f 10, f 11, f 12, f 13, f 14, f 15, f 16, f 17, f 18, f 19, f 20, f 21, f 22, f 23, f 24, f 25, f 26, f 27, f 28, f 29, f 30, f 31, f 32, f 33, f 34, f 35, f 36, f 37, f 38, f 39, f 40, f 41, f 42, f 43, f 44, f 45, f 46, f 47, f 48, f 49, f 50, f 51, f 52, f 53, f 54, f 55, f 56, f 57, f 58, f 59, f 60, f 61, f 62, f 63, f 64, f 65, f 66, f 67, f 68, f 69, f 70, f 71, f 72, f 73, f 74, f 75, f 76, f 77, f 78, f 79, f 80, f 81, f 82, f 83, f 84, f 85, f 86, f 87, f 88, f 89, f 90, f 91, f 92, f 93, f 94, f 95, f 96, f 97, f 98, f 99, f 100, f 101, f 102, f 103, f 104, f 105, f 106, f 107, f 108, f 109, f 110, f 111, f 112, f 113, f 114, f 115, f 116, f 117, f 118, f 119, f 120, f 121, f 122, f 123, f 124, f 125, f 126, f 127, f 128, f 129, f 130, f 131, f 132, f 133, f 134, f 135, f 136, f 137, f 138, f 139, f 140, f 141, f 142, f 143, f 144, f 145, f 146, f 147, f 148, f 149, f 150, f 151, f 152], []⟩ := rfl
                    replace hK : ∀ v W', Below W.heap.size W W' → phRu x al kl PL gx K1 S1 S2 S3 7 v W' → K ((mono.lit 153 f []).put (some 138) v) W' := hK
                    rw [eL] at hK ⊢
                    simp only [Act.put, List.setIfInBounds_toArray, List.set_cons_succ, List.set_cons_zero] at hK
                    have o14 : f 14 = (.pointer (some ⟨gx, 0, none⟩)) := hO 14 (by kernel_rfl)
                    rw [o14] at hK ⊢
                    go_simp
                    exact hK _ _ (Below.refl _ _) rfl
                  · refine mono.dutyT_of rfl ?_
                    intro f W hR hO hD K hK
                    have eL : mono.lit 153 f [] = ⟨#[f 0, f 1, f 2, f 3, f 4, f 5, f 6, f 7, f 8, f 9, f 10, f 11, f 12, f 13, f 14, f 15, f 16, f 17, f 18, f 19, f 20, f 21, f 22, f 23, f 24, f 25, f 26, f 27, f 28, f 29, f 30, f 31, f 32, f 33, f 34, f 35, f 36, f 37, f 38, f 39, f 40, f 41, f 42, f 43, f 44, f 45, f 46, f 47, f 48, f 49, f 50, f 51, f 52, f 53, f 54, f 55, f 56, f 57, f 58, f 59, f 60, f 61, f 62, f 63, f 64, f 65, f 66, f 67, f 68, f 69, f 70, f 71, f 72, f 73, f 74, f 75, f 76, f 77, f 78, f 79, f 80, f 81, f 82, f 83, f 84, f 85, f 86, f 87, f 88, f 89, f 90, f 91, f 92, f 93, f 94, f 95, f 96, f 97, f 98, f 99, f 100, f 101, f 102, f 103, f 104, f 105, f 106, f 107, f 108, f 109, f 110, f 111, f 112, f 113, f 114, f 115, f 116, f 117, f 118, f 119, f 120, f 121, f 122, f 123, f 124, f 125, f 126, f 127, f 128, f 129, f 130, f 131, f 132, f 133, f 134, f 135, f 136, f 137, f 138, f 139, f 140, f 141, f 142, f 143, f 144, f 145, f 146, f 147, f 148, f 149, f 150, f 151, f 152], []⟩ := rfl
                    replace hK : ∀ v W', Below W.heap.size W W' → phRu x al kl PL gx K1 S1 S2 S3 8 v W' → K ((mono.lit 153 f []).put (some 139) v) W' := hK
                    rw [eL] at hK ⊢
                    simp only [Act.put, List.setIfInBounds_toArray, List.set_cons_succ, List.set_cons_zero] at hK
                    have q7 := hD 7 138 (by kernel_rfl) (by kernel_rfl)
                    replace q7 : f 138 = (.pointer (some ⟨gx, 0, none⟩)) := q7
                    rw [q7] at hK ⊢
                    obtain ⟨x0, x1, x2⟩ := hcel W hR
                    go_simp
                    exact hK _ _ (Below.refl _ _) rfl
                  · refine mono.dutyT_of rfl ?_
                    intro f W hR hO hD K hK
                    have eL : mono.lit 153 f [] = ⟨#[f 0, f 1, f 2, f 3, f 4, f 5, f 6, f 7, f 8, f 9, f 10, f 11, f 12, f 13, f 14, f 15, f 16, f 17, f 18, f 19, f 20, f 21, f 22, f 23, f 24, f 25, f 26, f 27, f 28, f 29, f 30, f 31, f 32, f 33, f 34, f 35, f 36, f 37, f 38, f 39, f 40, f 41, f 42, f 43, f 44, f 45, f 46, f 47, f 48, f 49, f 50, f 51, f 52, f 53, f 54, f 55, f 56, f 57, f 58, f 59, f 60, f 61, f 62, f 63, f 64, f 65, f 66, f 67, f 68, f 69, f 70, f 71, f 72, f 73, f 74, f 75, f 76, f 77, f 78, f 79, f 80, f 81, f 82, f 83, f 84, f 85, f 86, f 87, f 88, f 89, f 90, f 91, f 92, f 93, f 94, f 95, f 96, f 97, f 98, f 99, f 100, f 101, f 102, f 103, f 104, f 105, f 106, f 107, f 108, f 109, f 110, f 111, f 112, f 113, f 114, f 115, f 116, f 117, f 118, f 119, f 120, f 121, f 122, f 123, f 124, f 125, f 126, f 127, f 128, f 129, f 130, f 131, f 132, f 133, f 134, f 135, f 136, f 137, f 138, f 139, f 140, f 141, f 142, f 143, f 144, f 145, f 146, f 147, f 148, f 149, f 150, f 151, f 152], []⟩ := rfl
                    replace hK : ∀ v W', Below W.heap.size W W' → phRu x al kl PL gx K1 S1 S2 S3 9 v W' → K ((mono.lit 153 f []).put (some 140) v) W' := hK
                    rw [eL] at hK ⊢
                    simp only [Act.put, List.setIfInBounds_toArray, List.set_cons_succ, List.set_cons_zero] at hK
                    have q8 := hD 8 139 (by kernel_rfl) (by kernel_rfl)
                    replace q8 : f 139 = (.int .i64 x.c) := q8
                    rw [q8] at hK ⊢
                    have cX := n1 W hR
                    go_simp
                    refine cX.mono ?_
                    rintro e w9 ⟨rfl, hb⟩
                    exact hK _ _ hb rfl
                  · refine mono.dutyT_of rfl ?_
                    intro f W hR hO hD K hK
                    have eL : mono.lit 153 f [] = ⟨#[f 0, f 1, f 2, f 3, f 4, f 5, f 6, f 7, f 8, f 9, f 10, f 11, f 12, f 13, f 14, f 15, f 16, f 17, f 18, f 19, f 20, f 21, f 22, f 23, f 24, f 25, f 26, f 27, f 28, f 29, f 30, f 31, f 32, f 33, f 34, f 35, f 36, f 37, f 38, f 39, f 40, f 41, f 42, f 43, f 44, f 45, f 46, f 47, f 48, f 49, f 50, f 51, f 52, f 53, f 54, f 55, f 56, f 57, f 58, f 59, f 60, f 61, f 62, f 63, f 64, f 65, f 66, f 67, f 68, f 69, f 70, f 71, f 72, f 73, f 74, f 75, f 76, f 77, f 78, f 79, f 80, f 81, f 82, f 83, f 84, f 85, f 86, f 87, f 88, f 89, f 90, f 91, f 92, f 93, f 94, f 95, f 96, f 97, f 98, f 99, f 100, f 101, f 102, f 103, f 104, f 105, f 106, f 107, f 108, f 109, f 110, f 111, f 112, f 113, f 114, f 115, f 116, f 117, f 118, f 119, f 120, f 121, f 122, f 123, f 124, f 125, f 126, f 127, f 128, f 129, f 130, f 131, f 132, f 133, f 134, f 135, f 136, f 137, f 138, f 139, f 140, f 141, f 142, f 143, f 144, f 145, f 146, f 147, f 148, f 149, f 150, f 151, f 152], []⟩ := rfl
                    replace hK : ∀ v W', Below W.heap.size W W' → phRu x al kl PL gx K1 S1 S2 S3 10 v W' → K ((mono.lit 153 f []).put (some 141) v) W' := hK
                    rw [eL] at hK ⊢
                    simp only [Act.put, List.setIfInBounds_toArray, List.set_cons_succ, List.set_cons_zero] at hK
                    have o14 : f 14 = (.pointer (some ⟨gx, 0, none⟩)) := hO 14 (by kernel_rfl)
                    rw [o14] at hK ⊢
                    go_simp
                    exact hK _ _ (Below.refl _ _) rfl
                  · refine mono.dutyT_of rfl ?_
                    intro f W hR hO hD K hK
                    have eL : mono.lit 153 f [] = ⟨#[f 0, f 1, f 2, f 3, f 4, f 5, f 6, f 7, f 8, f 9, f 10, f 11, f 12, f 13, f 14, f 15, f 16, f 17, f 18, f 19, f 20, f 21, f 22, f 23, f 24, f 25, f 26, f 27, f 28, f 29, f 30, f 31, f 32, f 33, f 34, f 35, f 36, f 37, f 38, f 39, f 40, f 41, f 42, f 43, f 44, f 45, f 46, f 47, f 48, f 49, f 50, f 51, f 52, f 53, f 54, f 55, f 56, f 57, f 58, f 59, f 60, f 61, f 62, f 63, f 64, f 65, f 66, f 67, f 68, f 69, f 70, f 71, f 72, f 73, f 74, f 75, f 76, f 77, f 78, f 79, f 80, f 81, f 82, f 83, f 84, f 85, f 86, f 87, f 88, f 89, f 90, f 91, f 92, f 93, f 94, f 95, f 96, f 97, f 98, f 99, f 100, f 101, f 102, f 103, f 104, f 105, f 106, f 107, f 108, f 109, f 110, f 111, f 112, f 113, f 114, f 115, f 116, f 117, f 118, f 119, f 120, f 121, f 122, f 123, f 124, f 125, f 126, f 127, f 128, f 129, f 130, f 131, f 132, f 133, f 134, f 135, f 136, f 137, f 138, f 139, f 140, f 141, f 142, f 143, f 144, f 145, f 146, f 147, f 148, f 149, f 150, f 151, f 152], []⟩ := rfl
                    replace hK : ∀ v W', Below W.heap.size W W' → phRu x al kl PL gx K1 S1 S2 S3 11 v W' → K ((mono.lit 153 f []).put (some 142) v) W' := hK
                    rw [eL] at hK ⊢
                    simp only [Act.put, List.setIfInBounds_toArray, List.set_cons_succ, List.set_cons_zero] at hK
                    have q10 := hD 10 141 (by kernel_rfl) (by kernel_rfl)
                    replace q10 : f 141 = (.pointer (some ⟨gx, 1, none⟩)) := q10
                    rw [q10] at hK ⊢
                    obtain ⟨x0, x1, x2⟩ := hcel W hR
                    go_simp
                    exact hK _ _ (Below.refl _ _) rfl
                  · refine mono.dutyT_of rfl ?_
                    intro f W hR hO hD K hK
                    have eL : mono.lit 153 f [] = ⟨#[f 0, f 1, f 2, f 3, f 4, f 5, f 6, f 7, f 8, f 9, f 10, f 11, f 12, f 13, f 14, f 15, f 16, f 17, f 18, f 19, f 20, f 21, f 22, f 23, f 24, f 25, f 26, f 27, f 28, f 29, f 30, f 31, f 32, f 33, f 34, f 35, f 36, f 37, f 38, f 39, f 40, f 41, f 42, f 43, f 44, f 45, f 46, f 47, f 48, f 49, f 50, f 51, f 52, f 53, f 54, f 55, f 56, f 57, f 58, f 59, f 60, f 61, f 62, f 63, f 64, f 65, f 66, f 67, f 68, f 69, f 70, f 71, f 72, f 73, f 74, f 75, f 76, f 77, f 78, f 79, f 80, f 81, f 82, f 83, f 84, f 85, f 86, f 87, f 88, f 89, f 90, f 91, f 92, f 93, f 94, f 95, f 96, f 97, f 98, f 99, f 100, f 101, f 102, f 103, f 104, f 105, f 106, f 107, f 108, f 109, f 110, f 111, f 112, f 113, f 114, f 115, f 116, f 117, f 118, f 119, f 120, f 121, f 122, f 123, f 124, f 125, f 126, f 127, f 128, f 129, f 130, f 131, f 132, f 133, f 134, f 135, f 136, f 137, f 138, f 139, f 140, f 141, f 142, f 143, f 144, f 145, f 146, f 147, f 148, f 149, f 150, f 151, f 152], []⟩ := rfl
                    replace hK : ∀ v W', Below W.heap.size W W' → phRu x al kl PL gx K1 S1 S2 S3 12 v W' → K ((mono.lit 153 f []).put (some 143) v) W' := hK
                    rw [eL] at hK ⊢
                    simp only [Act.put, List.setIfInBounds_toArray, List.set_cons_succ, List.set_cons_zero] at hK
                    have q11 := hD 11 142 (by kernel_rfl) (by kernel_rfl)
                    replace q11 : f 142 = (.int .i64 x.b) := q11
                    rw [q11] at hK ⊢
                    have cX := n2 W hR
                    go_simp
                    refine cX.mono ?_
                    rintro e w9 ⟨rfl, hb⟩
                    exact hK _ _ hb rfl
                  · refine mono.dutyT_of rfl ?_
                    intro f W hR hO hD K hK
                    have eL : mono.lit 153 f [] = ⟨#[f 0, f 1, f 2, f 3, f 4, f 5, f 6, f 7, f 8, f 9, f 10, f 11, f 12, f 13, f 14, f 15, f 16, f 17, f 18, f 19, f 20, f 21, f 22, f 23, f 24, f 25, f 26, f 27, f 28, f 29, f 30, f 31, f 32, f 33, f 34, f 35, f 36, f 37, f 38, f 39, f 40, f 41, f 42, f 43, f 44, f 45, f 46, f 47, f 48, f 49, f 50, f 51, f 52, f 53, f 54, f 55, f 56, f 57, f 58, f 59, f 60, f 61, f 62, f 63, f 64, f 65, f 66, f 67, f 68, f 69, f 70, f 71, f 72, f 73, f 74, f 75, f 76, f 77, f 78, f 79, f 80, f 81, f 82, f 83, f 84, f 85, f 86, f 87, f 88, f 89, f 90, f 91, f 92, f 93, f 94, f 95, f 96, f 97, f 98, f 99, f 100, f 101, f 102, f 103, f 104, f 105, f 106, f 107, f 108, f 109, f 110, f 111, f 112, f 113, f 114, f 115, f 116, f 117, f 118, f 119, f 120, f 121, f 122, f 123, f 124, f 125, f 126, f 127, f 128, f 129, f 130, f 131, f 132, f 133, f 134, f 135, f 136, f 137, f 138, f 139, f 140, f 141, f 142, f 143, f 144, f 145, f 146, f 147, f 148, f 149, f 150, f 151, f 152], []⟩ := rfl
                    replace hK : ∀ v W', Below W.heap.size W W' → phRu x al kl PL gx K1 S1 S2 S3 13 v W' → K ((mono.lit 153 f []).put (some 144) v) W' := hK
                    rw [eL] at hK ⊢
                    simp only [Act.put, List.setIfInBounds_toArray, List.set_cons_succ, List.set_cons_zero] at hK
                    have q9 := hD 9 140 (by kernel_rfl) (by kernel_rfl)
                    replace q9 : f 140 = (.string (S1)) := q9
                    have q12 := hD 12 143 (by kernel_rfl) (by kernel_rfl)
                    replace q12 : f 143 = (.string (S2)) := q12
                    rw [q9, q12] at hK ⊢
                    go_simp
                    exact hK _ _ (Below.refl _ _) rfl
                  · refine mono.dutyT_of rfl ?_
                    intro f W hR hO hD K hK
                    have eL : mono.lit 153 f [] = ⟨#[f 0, f 1, f 2, f 3, f 4, f 5, f 6, f 7, f 8, f 9, f 10, f 11, f 12, f 13, f 14, f 15, f 16, f 17, f 18, f 19, f 20, f 21, f 22, f 23, f 24, f 25, f 26, f 27, f 28, f 29, f 30, f 31, f 32, f 33, f 34, f 35, f 36, f 37, f 38, f 39, f 40, f 41, f 42, f 43, f 44, f 45, f 46, f 47, f 48, f 49, f 50, f 51, f 52, f 53, f 54, f 55, f 56, f 57, f 58, f 59, f 60, f 61, f 62, f 63, f 64, f 65, f 66, f 67, f 68, f 69, f 70, f 71, f 72, f 73, f 74, f 75, f 76, f 77, f 78, f 79, f 80, f 81, f 82, f 83, f 84, f 85, f 86, f 87, f 88, f 89, f 90, f 91, f 92, f 93, f 94, f 95, f 96, f 97, f 98, f 99, f 100, f 101, f 102, f 103, f 104, f 105, f 106, f 107, f 108, f 109, f 110, f 111, f 112, f 113, f 114, f 115, f 116, f 117, f 118, f 119, f 120, f 121, f 122, f 123, f 124, f 125, f 126, f 127, f 128, f 129, f 130, f 131, f 132, f 133, f 134, f 135, f 136, f 137, f 138, f 139, f 140, f 141, f 142, f 143, f 144, f 145, f 146, f 147, f 148, f 149, f 150, f 151, f 152], []⟩ := rfl
                    replace hK : ∀ v W', Below W.heap.size W W' → phRu x al kl PL gx K1 S1 S2 S3 14 v W' → K ((mono.lit 153 f []).put (some 145) v) W' := hK
                    rw [eL] at hK ⊢
                    simp only [Act.put, List.setIfInBounds_toArray, List.set_cons_succ, List.set_cons_zero] at hK
                    have o14 : f 14 = (.pointer (some ⟨gx, 0, none⟩)) := hO 14 (by kernel_rfl)
                    rw [o14] at hK ⊢
                    go_simp
                    exact hK _ _ (Below.refl _ _) rfl
                  · refine mono.dutyT_of rfl ?_
                    intro f W hR hO hD K hK
                    have eL : mono.lit 153 f [] = ⟨#[f 0, f 1, f 2, f 3, f 4, f 5, f 6, f 7, f 8, f 9, f 10, f 11, f 12, f 13, f 14, f 15, f 16, f 17, f 18, f 19, f 20, f 21, f 22, f 23, f 24, f 25, f 26, f 27, f 28, f 29, f 30, f 31, f 32, f 33, f 34, f 35, f 36, f 37, f 38, f 39, f 40, f 41, f 42, f 43, f 44, f 45, f 46, f 47, f 48, f 49, f 50, f 51, f 52, f 53, f 54, f 55, f 56, f 57, f 58, f 59, f 60, f 61, f 62, f 63, f 64, f 65, f 66, f 67, f 68, f 69, f 70, f 71, f 72, f 73, f 74, f 75, f 76, f 77, f 78, f 79, f 80, f 81, f 82, f 83, f 84, f 85, f 86, f 87, f 88, f 89, f 90, f 91, f 92, f 93, f 94, f 95, f 96, f 97, f 98, f 99, f 100, f 101, f 102, f 103, f 104, f 105, f 106, f 107, f 108, f 109, f 110, f 111, f 112, f 113, f 114, f 115, f 116, f 117, f 118, f 119, f 120, f 121, f 122, f 123, f 124, f 125, f 126, f 127, f 128, f 129, f 130, f 131, f 132, f 133, f 134, f 135, f 136, f 137, f 138, f 139, f 140, f 141, f 142, f 143, f 144, f 145, f 146, f 147, f 148, f 149, f 150, f 151, f 152], []⟩ := rfl
                    replace hK : ∀ v W', Below W.heap.size W W' → phRu x al kl PL gx K1 S1 S2 S3 15 v W' → K ((mono.lit 153 f []).put (some 146) v) W' := hK
                    rw [eL] at hK ⊢
                    simp only [Act.put, List.setIfInBounds_toArray, List.set_cons_succ, List.set_cons_zero] at hK
                    have q14 := hD 14 145 (by kernel_rfl) (by kernel_rfl)
                    replace q14 : f 145 = (.pointer (some ⟨gx, 2, none⟩)) := q14
                    rw [q14] at hK ⊢
                    obtain ⟨x0, x1, x2⟩ := hcel W hR
                    go_simp
                    exact hK _ _ (Below.refl _ _) rfl
                  · refine mono.dutyT_of rfl ?_
                    intro f W hR hO hD K hK
                    have eL : mono.lit 153 f [] = ⟨#[f 0, f 1, f 2, f 3, f 4, f 5, f 6, f 7, f 8, f 9, f 10, f 11, f 12, f 13, f 14, f 15, f 16, f 17, f 18, f 19, f 20, f 21, f 22, f 23, f 24, f 25, f 26, f 27, f 28, f 29, f 30, f 31, f 32, f 33, f 34, f 35, f 36, f 37, f 38, f 39, f 40, f 41, f 42, f 43, f 44, f 45, f 46, f 47, f 48, f 49, f 50, f 51, f 52, f 53, f 54, f 55, f 56, f 57, f 58, f 59, f 60, f 61, f 62, f 63, f 64, f 65, f 66, f 67, f 68, f 69, f 70, f 71, f 72, f 73, f 74, f 75, f 76, f 77, f 78, f 79, f 80, f 81, f 82, f 83, f 84, f 85, f 86, f 87, f 88, f 89, f 90, f 91, f 92, f 93, f 94, f 95, f 96, f 97, f 98, f 99, f 100, f 101, f 102, f 103, f 104, f 105, f 106, f 107, f 108, f 109, f 110, f 111, f 112, f 113, f 114, f 115, f 116, f 117, f 118, f 119, f 120, f 121, f 122, f 123, f 124, f 125, f 126, f 127, f 128, f 129, f 130, f 131, f 132, f 133, f 134, f 135, f 136, f 137, f 138, f 139, f 140, f 141, f 142, f 143, f 144, f 145, f 146, f 147, f 148, f 149, f 150, f 151, f 152], []⟩ := rfl
                    replace hK : ∀ v W', Below W.heap.size W W' → phRu x al kl PL gx K1 S1 S2 S3 16 v W' → K ((mono.lit 153 f []).put (some 147) v) W' := hK
                    rw [eL] at hK ⊢
                    simp only [Act.put, List.setIfInBounds_toArray, List.set_cons_succ, List.set_cons_zero] at hK
                    have q15 := hD 15 146 (by kernel_rfl) (by kernel_rfl)
                    replace q15 : f 146 = (.int .i64 x.s) := q15
                    rw [q15] at hK ⊢
                    have cX := n3 W hR
                    go_simp
                    refine cX.mono ?_
                    rintro e w9 ⟨rfl, hb⟩
                    exact hK _ _ hb rfl
                  · refine mono.dutyT_of rfl ?_
                    intro f W hR hO hD K hK
                    have eL : mono.lit 153 f [] = ⟨#[f 0, f 1, f 2, f 3, f 4, f 5, f 6, f 7, f 8, f 9, f 10, f 11, f 12, f 13, f 14, f 15, f 16, f 17, f 18, f 19, f 20, f 21, f 22, f 23, f 24, f 25, f 26, f 27, f 28, f 29, f 30, f 31, f 32, f 33, f 34, f 35, f 36, f 37, f 38, f 39, f 40, f 41, f 42, f 43, f 44, f 45, f 46, f 47, f 48, f 49, f 50, f 51, f 52, f 53, f 54, f 55, f 56, f 57, f 58, f 59, f 60, f 61, f 62, f 63, f 64, f 65, f 66, f 67, f 68, f 69, f 70, f 71, f 72, f 73, f 74, f 75, f 76, f 77, f 78, f 79, f 80, f 81, f 82, f 83, f 84, f 85, f 86, f 87, f 88, f 89, f 90, f 91, f 92, f 93, f 94, f 95, f 96, f 97, f 98, f 99, f 100, f 101, f 102, f 103, f 104, f 105, f 106, f 107, f 108, f 109, f 110, f 111, f 112, f 113, f 114, f 115, f 116, f 117, f 118, f 119, f 120, f 121, f 122, f 123, f 124, f 125, f 126, f 127, f 128, f 129, f 130, f 131, f 132, f 133, f 134, f 135, f 136, f 137, f 138, f 139, f 140, f 141, f 142, f 143, f 144, f 145, f 146, f 147, f 148, f 149, f 150, f 151, f 152], []⟩ := rfl
                    replace hK : ∀ v W', Below W.heap.size W W' → phRu x al kl PL gx K1 S1 S2 S3 17 v W' → K ((mono.lit 153 f []).put (some 148) v) W' := hK
                    rw [eL] at hK ⊢
                    simp only [Act.put, List.setIfInBounds_toArray, List.set_cons_succ, List.set_cons_zero] at hK
                    have q13 := hD 13 144 (by kernel_rfl) (by kernel_rfl)
                    replace q13 : f 144 = (.string (S1 ++ S2)) := q13
                    have q16 := hD 16 147 (by kernel_rfl) (by kernel_rfl)
                    replace q16 : f 147 = (.string (S3)) := q16
                    rw [q13, q16] at hK ⊢
                    go_simp
                    exact hK _ _ (Below.refl _ _) rfl
                  · refine mono.dutyT_of rfl ?_
                    intro f W hR hO hD K hK
                    have eL : mono.lit 153 f [] = ⟨#[f 0, f 1, f 2, f 3, f 4, f 5, f 6, f 7, f 8, f 9, f 10, f 11, f 12, f 13, f 14, f 15, f 16, f 17, f 18, f 19, f 20, f 21, f 22, f 23, f 24, f 25, f 26, f 27, f 28, f 29, f 30, f 31, f 32, f 33, f 34, f 35, f 36, f 37, f 38, f 39, f 40, f 41, f 42, f 43, f 44, f 45, f 46, f 47, f 48, f 49, f 50, f 51, f 52, f 53, f 54, f 55, f 56, f 57, f 58, f 59, f 60, f 61, f 62, f 63, f 64, f 65, f 66, f 67, f 68, f 69, f 70, f 71, f 72, f 73, f 74, f 75, f 76, f 77, f 78, f 79, f 80, f 81, f 82, f 83, f 84, f 85, f 86, f 87, f 88, f 89, f 90, f 91, f 92, f 93, f 94, f 95, f 96, f 97, f 98, f 99, f 100, f 101, f 102, f 103, f 104, f 105, f 106, f 107, f 108, f 109, f 110, f 111, f 112, f 113, f 114, f 115, f 116, f 117, f 118, f 119, f 120, f 121, f 122, f 123, f 124, f 125, f 126, f 127, f 128, f 129, f 130, f 131, f 132, f 133, f 134, f 135, f 136, f 137, f 138, f 139, f 140, f 141, f 142, f 143, f 144, f 145, f 146, f 147, f 148, f 149, f 150, f 151, f 152], []⟩ := rfl
                    replace hK : ∀ v W', Below W.heap.size W W' → phRu x al kl PL gx K1 S1 S2 S3 18 v W' → K ((mono.lit 153 f []).put (some 149) v) W' := hK
                    rw [eL] at hK ⊢
                    simp only [Act.put, List.setIfInBounds_toArray, List.set_cons_succ, List.set_cons_zero] at hK
                    have q6 := hD 6 137 (by kernel_rfl) (by kernel_rfl)
                    replace q6 : f 137 = (.string (⟨#[117]⟩ ++ K1)) := q6
                    have q17 := hD 17 148 (by kernel_rfl) (by kernel_rfl)
                    replace q17 : f 148 = (.string (S1 ++ S2 ++ S3)) := q17
                    rw [q6, q17] at hK ⊢
                    go_simp
                    exact hK _ _ (Below.refl _ _) rfl
                  · refine mono.dutyT_of rfl ?_
                    intro f W hR hO hD K hK
                    have eL : mono.lit 153 f [] = ⟨#[f 0, f 1, f 2, f 3, f 4, f 5, f 6, f 7, f 8, f 9, f 10, f 11, f 12, f 13, f 14, f 15, f 16, f 17, f 18, f 19, f 20, f 21, f 22, f 23, f 24, f 25, f 26, f 27, f 28, f 29, f 30, f 31, f 32, f 33, f 34, f 35, f 36, f 37, f 38, f 39, f 40, f 41, f 42, f 43, f 44, f 45, f 46, f 47, f 48, f 49, f 50, f 51, f 52, f 53, f 54, f 55, f 56, f 57, f 58, f 59, f 60, f 61, f 62, f 63, f 64, f 65, f 66, f 67, f 68, f 69, f 70, f 71, f 72, f 73, f 74, f 75, f 76, f 77, f 78, f 79, f 80, f 81, f 82, f 83, f 84, f 85, f 86, f 87, f 88, f 89, f 90, f 91, f 92, f 93, f 94, f 95, f 96, f 97, f 98, f 99, f 100, f 101, f 102, f 103, f 104, f 105, f 106, f 107, f 108, f 109, f 110, f 111, f 112, f 113, f 114, f 115, f 116, f 117, f 118, f 119, f 120, f 121, f 122, f 123, f 124, f 125, f 126, f 127, f 128, f 129, f 130, f 131, f 132, f 133, f 134, f 135, f 136, f 137, f 138, f 139, f 140, f 141, f 142, f 143, f 144, f 145, f 146, f 147, f 148, f 149, f 150, f 151, f 152], []⟩ := rfl
                    replace hK : ∀ v W', Below W.heap.size W W' → phRu x al kl PL gx K1 S1 S2 S3 19 v W' → K ((mono.lit 153 f []).put (some 150) v) W' := hK
                    rw [eL] at hK ⊢
                    simp only [Act.put, List.setIfInBounds_toArray, List.set_cons_succ, List.set_cons_zero] at hK
                    have q18 := hD 18 149 (by kernel_rfl) (by kernel_rfl)
                    replace q18 : f 149 = (.agg #[.string (⟨#[117]⟩ ++ K1), .string (S1 ++ S2 ++ S3)]) := q18
                    rw [q18] at hK ⊢
                    go_simp
                    exact hK _ _ (alloc_bR W _) ⟨_, rfl, heap_alloc_new W _⟩
                  · intro f W hB hO hD
                    have r0 := hO 0 (by kernel_rfl)
                    have r1 := hO 1 (by kernel_rfl)
                    have r2 := hO 2 (by kernel_rfl)
                    have r3 := hO 3 (by kernel_rfl)
                    have r4 := hO 4 (by kernel_rfl)
                    have r5 := hO 5 (by kernel_rfl)
                    have r6 := hO 6 (by kernel_rfl)
                    have r7 := hO 7 (by kernel_rfl)
                    have r8 := hO 8 (by kernel_rfl)
                    have r9 := hO 9 (by kernel_rfl)
                    have r10 := hO 10 (by kernel_rfl)
                    have r11 := hO 11 (by kernel_rfl)
                    have r12 := hO 12 (by kernel_rfl)
                    have r13 := hO 13 (by kernel_rfl)
                    have r14 := hO 14 (by kernel_rfl)
                    have r15 := hO 15 (by kernel_rfl)
                    have r16 := hO 16 (by kernel_rfl)
                    have r17 := hO 17 (by kernel_rfl)
                    have r18 := hO 18 (by kernel_rfl)
                    have r19 := hO 19 (by kernel_rfl)
                    have r20 := hO 20 (by kernel_rfl)
                    have r21 := hO 21 (by kernel_rfl)
                    have r22 := hO 22 (by kernel_rfl)
                    have r23 := hO 23 (by kernel_rfl)
                    have r24 := hO 24 (by kernel_rfl)
                    have r25 := hO 25 (by kernel_rfl)
                    have r26 := hO 26 (by kernel_rfl)
                    have r27 := hO 27 (by kernel_rfl)
                    have r28 := hO 28 (by kernel_rfl)
                    have r29 := hO 29 (by kernel_rfl)
                    have r30 := hO 30 (by kernel_rfl)
                    have r31 := hO 31 (by kernel_rfl)
                    have r32 := hO 32 (by kernel_rfl)
                    have r33 := hO 33 (by kernel_rfl)
                    have r34 := hO 34 (by kernel_rfl)
                    have r35 := hO 35 (by kernel_rfl)
                    have r36 := hO 36 (by kernel_rfl)
                    have r37 := hO 37 (by kernel_rfl)
                    have r38 := hO 38 (by kernel_rfl)
                    have r39 := hO 39 (by kernel_rfl)
                    have r40 := hO 40 (by kernel_rfl)
                    have r41 := hO 41 (by kernel_rfl)
                    have r42 := hO 42 (by kernel_rfl)
                    have r43 := hO 43 (by kernel_rfl)
                    have r44 := hO 44 (by kernel_rfl)
                    have r45 := hO 45 (by kernel_rfl)
                    have r46 := hO 46 (by kernel_rfl)
                    have r47 := hO 47 (by kernel_rfl)
                    have r48 := hO 48 (by kernel_rfl)
                    have r49 := hO 49 (by kernel_rfl)
                    have r50 := hO 50 (by kernel_rfl)
                    have r51 := hO 51 (by kernel_rfl)
                    have r52 := hO 52 (by kernel_rfl)
                    have r53 := hO 53 (by kernel_rfl)
                    have r54 := hO 54 (by kernel_rfl)
                    have r55 := hO 55 (by kernel_rfl)
                    have r56 := hO 56 (by kernel_rfl)
                    have r57 := hO 57 (by kernel_rfl)
                    have r58 := hO 58 (by kernel_rfl)
                    have r59 := hO 59 (by kernel_rfl)
                    have r60 := hO 60 (by kernel_rfl)
                    have r61 := hO 61 (by kernel_rfl)
                    have r62 := hO 62 (by kernel_rfl)
                    have r63 := hO 63 (by kernel_rfl)
                    have r64 := hO 64 (by kernel_rfl)
                    have r65 := hO 65 (by kernel_rfl)
                    have r66 := hO 66 (by kernel_rfl)
                    have r67 := hO 67 (by kernel_rfl)
                    have r68 := hO 68 (by kernel_rfl)
                    have r69 := hO 69 (by kernel_rfl)
                    have r70 := hO 70 (by kernel_rfl)
                    have r71 := hO 71 (by kernel_rfl)
                    have r72 := hO 72 (by kernel_rfl)
                    have r73 := hO 73 (by kernel_rfl)
                    have r74 := hO 74 (by kernel_rfl)
                    have r75 := hO 75 (by kernel_rfl)
                    have r76 := hO 76 (by kernel_rfl)
                    have r77 := hO 77 (by kernel_rfl)
                    have r78 := hO 78 (by kernel_rfl)
                    have r79 := hO 79 (by kernel_rfl)
                    have r80 := hO 80 (by kernel_rfl)
                    have r81 := hO 81 (by kernel_rfl)
                    have r82 := hO 82 (by kernel_rfl)
                    have r83 := hO 83 (by kernel_rfl)
                    have r84 := hO 84 (by kernel_rfl)
                    have r85 := hO 85 (by kernel_rfl)
                    have r86 := hO 86 (by kernel_rfl)
                    have r87 := hO 87 (by kernel_rfl)
                    have r88 := hO 88 (by kernel_rfl)
                    have r89 := hO 89 (by kernel_rfl)
                    have r90 := hO 90 (by kernel_rfl)
                    have r91 := hO 91 (by kernel_rfl)
                    have r92 := hO 92 (by kernel_rfl)
                    have r93 := hO 93 (by kernel_rfl)
                    have r94 := hO 94 (by kernel_rfl)
                    have r95 := hO 95 (by kernel_rfl)
                    have r96 := hO 96 (by kernel_rfl)
                    have r97 := hO 97 (by kernel_rfl)
                    have r98 := hO 98 (by kernel_rfl)
                    have r99 := hO 99 (by kernel_rfl)
                    have r100 := hO 100 (by kernel_rfl)
                    have r101 := hO 101 (by kernel_rfl)
                    have r102 := hO 102 (by kernel_rfl)
                    have r103 := hO 103 (by kernel_rfl)
                    have r104 := hO 104 (by kernel_rfl)
                    have r105 := hO 105 (by kernel_rfl)
                    have r106 := hO 106 (by kernel_rfl)
                    have r107 := hO 107 (by kernel_rfl)
                    have r108 := hO 108 (by kernel_rfl)
                    have r109 := hO 109 (by kernel_rfl)
                    have r110 := hO 110 (by kernel_rfl)
                    have r111 := hO 111 (by kernel_rfl)
                    have r112 := hO 112 (by kernel_rfl)
                    have r113 := hO 113 (by kernel_rfl)
                    have r114 := hO 114 (by kernel_rfl)
                    have r115 := hO 115 (by kernel_rfl)
                    have r116 := hO 116 (by kernel_rfl)
                    have r117 := hO 117 (by kernel_rfl)
                    have r118 := hO 118 (by kernel_rfl)
                    have r119 := hO 119 (by kernel_rfl)
                    have r120 := hO 120 (by kernel_rfl)
                    have r121 := hO 121 (by kernel_rfl)
                    have r122 := hO 122 (by kernel_rfl)
                    have r123 := hO 123 (by kernel_rfl)
                    have r124 := hO 124 (by kernel_rfl)
                    have r125 := hO 125 (by kernel_rfl)
                    have r126 := hO 126 (by kernel_rfl)
                    have r127 := hO 127 (by kernel_rfl)
                    have r128 := hO 128 (by kernel_rfl)
                    have r129 := hO 129 (by kernel_rfl)
                    have r130 := hO 130 (by kernel_rfl)
                    have r131 := hD 0 131 (by decide) (by kernel_rfl)
                    replace r131 : f 131 = (.slice al PL.length kl) := r131
                    have r150 := hD 19 150 (by decide) (by kernel_rfl)
                    obtain ⟨gs, es, hgs⟩ := r150
                    have r151 := hO 151 (by kernel_rfl)
                    have r152 := hO 152 (by kernel_rfl)
                    have eL : mono.lit 153 f [] = ⟨#[f 0, f 1, f 2, f 3, f 4, f 5, f 6, f 7, f 8, f 9, f 10, f 11, f 12, f 13, f 14, f 15, f 16, f 17, f 18, f 19, f 20, f 21, f 22, f 23, f 24, f 25, f 26, f 27, f 28, f 29, f 30, f 31, f 32, f 33, f 34, f 35, f 36, f 37, f 38, f 39, f 40, f 41, f 42, f 43, f 44, f 45, f 46, f 47, f 48, f 49, f 50, f 51, f 52, f 53, f 54, f 55, f 56, f 57, f 58, f 59, f 60, f 61, f 62, f 63, f 64, f 65, f 66, f 67, f 68, f 69, f 70, f 71, f 72, f 73, f 74, f 75, f 76, f 77, f 78, f 79, f 80, f 81, f 82, f 83, f 84, f 85, f 86, f 87, f 88, f 89, f 90, f 91, f 92, f 93, f 94, f 95, f 96, f 97, f 98, f 99, f 100, f 101, f 102, f 103, f 104, f 105, f 106, f 107, f 108, f 109, f 110, f 111, f 112, f 113, f 114, f 115, f 116, f 117, f 118, f 119, f 120, f 121, f 122, f 123, f 124, f 125, f 126, f 127, f 128, f 129, f 130, f 131, f 132, f 133, f 134, f 135, f 136, f 137, f 138, f 139, f 140, f 141, f 142, f 143, f 144, f 145, f 146, f 147, f 148, f 149, f 150, f 151, f 152], []⟩ := rfl
                    rw [eL, r0, r1, r2, r3, r4, r5, r6, r7, r8, r9, r10, r11, r12, r13, r14, r15, r16, r17, r18, r19, r20, r21, r22, r23, r24, r25, r26, r27, r28, r29, r30, r31, r32, r33, r34, r35, r36, r37, r38, r39, r40, r41, r42, r43, r44, r45, r46, r47, r48, r49, r50, r51, r52, r53, r54, r55, r56, r57, r58, r59, r60, r61, r62, r63, r64, r65, r66, r67, r68, r69, r70, r71, r72, r73, r74, r75, r76, r77, r78, r79, r80, r81, r82, r83, r84, r85, r86, r87, r88, r89, r90, r91, r92, r93, r94, r95, r96, r97, r98, r99, r100, r101, r102, r103, r104, r105, r106, r107, r108, r109, r110, r111, r112, r113, r114, r115, r116, r117, r118, r119, r120, r121, r122, r123, r124, r125, r126, r127, r128, r129, r130, r131, es, r151, r152]
                    clear eL hO hD r0 r1 r2 r3 r4 r5 r6 r7 r8 r9 r10 r11 r12 r13 r14 r15 r16 r17 r18 r19 r20 r21 r22 r23 r24 r25 r26 r27 r28 r29 r30 r31 r32 r33 r34 r35 r36 r37 r38 r39 r40 r41 r42 r43 r44 r45 r46 r47 r48 r49 r50 r51 r52 r53 r54 r55 r56 r57 r58 r59 r60 r61 r62 r63 r64 r65 r66 r67 r68 r69 r70 r71 r72 r73 r74 r75 r76 r77 r78 r79 r80 r81 r82 r83 r84 r85 r86 r87 r88 r89 r90 r91 r92 r93 r94 r95 r96 r97 r98 r99 r100 r101 r102 r103 r104 r105 r106 r107 r108 r109 r110 r111 r112 r113 r114 r115 r116 r117 r118 r119 r120 r121 r122 r123 r124 r125 r126 r127 r128 r129 r130 r131 r151 r152
                    change wpList _ _ _ (_ :: _ :: []) _ _
                    have hBD := hwd.trans (hB.mono hwd.size)
                    have hoD := own_belowG (own_belowG ho hDr) hB
                    have hoE := hoD
                    have hbE := hBD
                    have hsE := hbE.size
                    have hmn := many_at hgs
                    go_wp2_with (at_builtin; refine wpList_append_own _ rfl (.tmp 131) (.tmp 150) 28 rfl w3.heap.size 44 i0 (.agg #[.string ⟨#[]⟩, .string ⟨#[]⟩]) 2 32 Try.underlying28 hin hz0 hz1 hz2 rfl (by decide) _ PL.length _ rfl hoE ⟨gs, 0, none⟩ 1 1 [.string (⟨#[117]⟩ ++ K1), .string (S1 ++ S2 ++ S3)] rfl rfl hmn (two_str _ _) (by unfold maxLen; omega) (by omega) hsE ?_; intro v6 w6 ho6 hg6 _)
                    have ho7 : w6.ownsRow w3.heap.size 44 2 v6 (PL ++ [cuP x]).length (pcs (PL ++ [cuP x])) := by
                      rw [List.length_append, pcs_app, pcs_one, ← HK.out, ← HV.out]
                      exact ho6
                    have hb7 := hbE.grown hg6 hsE (fun j hj => (hoE.lt j hj).1)
                    exact ⟨⟨k + 1, PL ++ [cuP x], by omega, by go_num, HP2, by simp; omega, ho7, hb7⟩, by simp [Go.RowKit.intOf]; omega⟩
                · have hlt' : ¬ (k : Int) < (us.length : Int) := by omega
                  rw [List.take_of_length_le (by omega)] at HP
                  obtain ⟨R1, R2⟩ := R
                  have e1 : Hid (R1 = bs.map brP ++ cs.map coP ++ [nxP nc nb] ++ us.map cuP) := congrArg Prod.fst eR
                  have e2 : R2 = 0 := congrArg Prod.snd eR
                  clear eR
                  subst e2
                  have h9 : wr.ownsRow w.heap.size 44 2 (.slice al PL.length kl) R1.length (pcs R1) := by
                    rw [e1.out, ← HP.out]
                    exact own_lower ho hB3.size
                  clear HP hus
                  go_wp2_with fail
                  go_ret2
                  exact ⟨.slice al PL.length kl, rfl, h9, hBw⟩

end Go.Proofs.Ytdheddgdlindmaa
