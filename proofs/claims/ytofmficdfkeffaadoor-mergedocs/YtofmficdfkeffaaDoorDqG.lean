/-
  The reference's Check.
-/
import Derived.Test.YtofmficdfkeffaaDoorDqB
import Derived.Test.YtofmficdfkeffaaDoorDpGDpJ
import Derived.Deep.CondSized
namespace Go.Proofs.YtofmficdfkeffaaDoor
open Go.ChangeShapes Go.WideShapes Go.ChangeAt Go.RowKit Go.PlainAid

theorem rdn_at {W : World} {ao : Option Addr} {N cp : Nat} {l : List RunD} (h : RdN W (.slice ao N cp) l) {k : Nat} {r : RunD} (hr : l[k]? = some r) : ∃ b off, ao = some ⟨b, off, none⟩ ∧ W.cell? ⟨b, off + k * 4, none⟩ = some (.int .i64 r.c) ∧ W.cell? ⟨b, off + k * 4 + 1, none⟩ = some (.int .i64 r.q) ∧ W.cell? ⟨b, off + k * 4 + 2, none⟩ = some (.int .i64 r.f) ∧ W.cell? ⟨b, off + k * 4 + 3, none⟩ = some (.string r.t) := by
  obtain ⟨b, off, e, -, h⟩ := h.at k r hr
  exact ⟨b, off, e, h⟩
theorem ck_dec {l : List RunD} {k : Nat} (hk : k < l.length) (h : Ck l (k + 1)) : orM l[k].c l[k].q = true ∧ 0 < cpl l[k].t ∧ 0 ≤ l[k].f ∧ l[k].f ≤ 1000 - cpl l[k].t := mayR_iff.1 (h.may k l[k] (by omega) (by simp [hk]))

set_option maxRecDepth 20000 in
set_option maxHeartbeats 2000000 in
theorem rcheck_any (v : Value) (l : List RunD) (w : World) (hr : RdN w v l) (hm : l.length ≤ 1125899906842624) (hi : ∀ r ∈ l, r.Bd) (hsz : ∀ r ∈ l, r.t.size ≤ 1048576) :
    Calls Tryd.prog 28 #[v] w fun e w' => e = .returned (.int .i64 (ckR l)) ∧ Below w.heap.size w w' := by
  obtain ⟨ao, cp, hv, -⟩ := id hr
  subst hv
  go_enter Tryd.func28, Tryd.ntmps28
  go_wp2_with fail
  go_loopw [3, 4] (fun s i wr => ∃ (k : Nat), k ≤ l.length ∧ i = .int .i64 (k : Int) ∧ s = .int .i64 (num (l.take k) : Int) ∧ Ck l k ∧ Below w.heap.size w wr) (fun _ i _ => l.length - (Go.RowKit.intOf i).toNat)
  case atStart => exact ⟨0, Nat.zero_le _, rfl, rfl, ck_start l, Below.refl _ _⟩
  case round =>
    obtain ⟨k, hk, rfl, rfl, hck, hBr⟩ := hrel
    by_cases hlt : k < l.length
    · have hlt' : (k : Int) < (l.length : Int) := by omega
      have hlk : l[k]? = some l[k] := by simp [hlt]
      obtain ⟨bb, ob, rfl, e0, e1, e2, e3⟩ := rdn_at (hr.below hBr) hlk
      have hbd := hi l[k] (by simp)
      have b1 := hbd.f0
      have b2 := hbd.f1
      have cN := fun W => refLen_any l[k].t W (hsz l[k] (by simp))
      have cO := fun W => rorigin_any l[k].c l[k].q W
      have hcp := cpl_le l[k].t
      have hs0 := hsz l[k] (by simp)
      have hnl := hck.len
      have hg : ∀ W, Below wr.heap.size wr W → W.cell? ⟨bb, ob + k * 4 + 2, none⟩ = some (.int .i64 l[k].f) := fun W hW => by
        obtain ⟨_, _, e, -, -, g, -⟩ := rdn_at (hr.below (chain hBr hW)) hlk
        cases e
        exact g
      have hg0 : ∀ W, Below wr.heap.size wr W → W.cell? ⟨bb, ob + k * 4, none⟩ = some (.int .i64 l[k].c) ∧ W.cell? ⟨bb, ob + k * 4 + 1, none⟩ = some (.int .i64 l[k].q) := fun W hW => by
        obtain ⟨_, _, e, g0, g1, -⟩ := rdn_at (hr.below (chain hBr hW)) hlk
        cases e
        exact ⟨g0, g1⟩
      by_cases h1 : orM l[k].c l[k].q = true
      · by_cases h2 : 0 < cpl l[k].t
        · by_cases h3 : 0 ≤ l[k].f
          · by_cases h4 : l[k].f ≤ 999
            · by_cases h5 : cpl l[k].t ≤ 1000 - l[k].f
              · have hmay : mayR l[k] = true := mayR_iff.2 ⟨h1, h2, h3, by omega⟩
                by_cases h6 : (num (l.take k) : Int) + cpl l[k].t ≤ 1000
                · have HN : Hid ((num (l.take k) : Int) + cpl l[k].t = (num (l.take (k + 1)) : Int)) := by show _ = _; rw [num_take hlt]; omega
                  have hk1 : k ≤ 1125899906842624 := by omega
                  simp only [h1] at cO
                  cases k with
                  | zero =>
                    have HC : Hid (Ck l (0 + 1)) := ck_step hck hlt hmay h6 (fun a h0 => by omega)
                    simp only [Nat.zero_mul, Nat.add_zero] at hg hg0 e0 e1 e2 e3
                    clear hck hr hi hsz hlk hbd hmay
                    generalize num (l.take 0) = n0 at *
                    generalize cpl l[0].t = n at *
                    generalize l[0].c = c at *
                    generalize l[0].q = q at *
                    generalize l[0].f = f at *
                    generalize l[0].t = t at *
                    go_wp2_with (first | (go_at_call 62; refine (cN _).mono ?_; rintro e w1 ⟨rfl, q1⟩; have e2 := hg _ q1; obtain ⟨e0, e1⟩ := hg0 _ q1) | (go_at_call 63; refine (cO _).mono ?_; rintro e w2 ⟨rfl, q2⟩; replace q1 := chain q1 q2; have e2 := hg _ q1))
                    refine wp_region_beh (by kernel_rfl) (by kernel_rfl) ?_
                    repeat (go_big_quiet_step (fail))
                    refine wpQuiet_nil ?_
                    intro wq hw'
                    have hwq := Beh.out hw'
                    clear hw'
                    go_wp2_with fail
                    exact ⟨⟨0 + 1, by omega, by go_num, by rw [← HN.out], HC.out, chain hBr (chain q1 hwq)⟩, by simp [Go.RowKit.intOf]; omega⟩
                  | succ j =>
                    have hja : l[j]? = some l[j] := by simp [show j < l.length by omega]
                    have ham := mayR_iff.1 (hck.may j l[j] (by omega) hja)
                    have cA := fun W => refLen_any l[j].t W (hsz l[j] (by simp))
                    have hG : ∀ W, Below wr.heap.size wr W → W.cell? ⟨bb, ob + j * 4, none⟩ = some (.int .i64 l[j].c) ∧ W.cell? ⟨bb, ob + j * 4 + 1, none⟩ = some (.int .i64 l[j].q) ∧ W.cell? ⟨bb, ob + j * 4 + 2, none⟩ = some (.int .i64 l[j].f) ∧ W.cell? ⟨bb, ob + j * 4 + 3, none⟩ = some (.string l[j].t) := fun W hW => by
                      obtain ⟨_, _, e, g⟩ := rdn_at (hr.below (chain hBr hW)) hja
                      cases e
                      exact g
                    have h7 : 0 ≤ l[j].f ∧ 0 < cpl l[j].t ∧ l[j].f ≤ 1000 - cpl l[j].t := ⟨ham.2.2.1, ham.2.1, ham.2.2.2⟩
                    have hw7 : IntKind.i64.wrap (l[j].f + cpl l[j].t) = l[j].f + cpl l[j].t := by rw [IntKind.wrap_i64]; omega
                    have HC : Hid (nxR l[j] l[j + 1] = false → Ck l (j + 1 + 1)) := fun hx => ck_step hck hlt hmay h6 (fun a _ ha => by
                      rw [show j + 1 - 1 = j by omega, hja] at ha
                      injection ha with ha
                      rw [← ha]
                      exact hx)
                    have HX : Hid (nxR l[j] l[j + 1] = true → ckR l = 120) := fun hx => ck_bad (k := j + 1 + 1) (fun h => by
                      have := h.adj j l[j] l[j + 1] (by omega) hja hlk
                      rw [hx] at this
                      cases this)
                    have hno := @nxR_no l[j] l[j + 1]
                    have hye := @nxR_iff l[j] l[j + 1]
                    have HNo : Hid (¬ (l[j + 1].c = l[j].c ∧ l[j + 1].q = l[j].q ∧ l[j + 1].f = l[j].f + cpl l[j].t) → Ck l (j + 1 + 1)) := fun h => HC.out (hno.2 h)
                    have HYe : Hid (l[j + 1].c = l[j].c ∧ l[j + 1].q = l[j].q ∧ l[j + 1].f = l[j].f + cpl l[j].t → ckR l = 120) := fun h => HX.out (hye.2 h)
                    clear hck hr hi hsz hlk hbd hmay hja ham HC HX hno hye
                    generalize num (l.take (j + 1)) = n0 at *
                    generalize cpl l[j + 1].t = n at *
                    generalize l[j + 1].c = c at *
                    generalize l[j + 1].q = q at *
                    generalize l[j + 1].f = f at *
                    generalize l[j + 1].t = t at *
                    generalize cpl l[j].t = na at *
                    generalize l[j].c = ca at *
                    generalize l[j].q = qa at *
                    generalize l[j].f = fa at *
                    generalize l[j].t = ta at *
                    go_wp2_with (first | (go_at_call 62; refine (cN _).mono ?_; rintro e w1 ⟨rfl, q1⟩; have e2 := hg _ q1; obtain ⟨e0, e1⟩ := hg0 _ q1) | (go_at_call 63; refine (cO _).mono ?_; rintro e w2 ⟨rfl, q2⟩; replace q1 := chain q1 q2; have e2 := hg _ q1))
                    have x0 : ∀ s : Beh w2, s.it.cell? ⟨bb, ob + (j + 1) * 4, none⟩ = some (.int .i64 c) := fun s => (hg0 _ (chain q1 s.h)).1
                    have x1 : ∀ s : Beh w2, s.it.cell? ⟨bb, ob + (j + 1) * 4 + 1, none⟩ = some (.int .i64 q) := fun s => (hg0 _ (chain q1 s.h)).2
                    have x2 : ∀ s : Beh w2, s.it.cell? ⟨bb, ob + (j + 1) * 4 + 2, none⟩ = some (.int .i64 f) := fun s => hg _ (chain q1 s.h)
                    have y0 : ∀ s : Beh w2, s.it.cell? ⟨bb, ob + j * 4, none⟩ = some (.int .i64 ca) := fun s => (hG _ (chain q1 s.h)).1
                    have y1 : ∀ s : Beh w2, s.it.cell? ⟨bb, ob + j * 4 + 1, none⟩ = some (.int .i64 qa) := fun s => (hG _ (chain q1 s.h)).2.1
                    have y2 : ∀ s : Beh w2, s.it.cell? ⟨bb, ob + j * 4 + 2, none⟩ = some (.int .i64 fa) := fun s => (hG _ (chain q1 s.h)).2.2.1
                    have y3 : ∀ s : Beh w2, s.it.cell? ⟨bb, ob + j * 4 + 3, none⟩ = some (.string ta) := fun s => (hG _ (chain q1 s.h)).2.2.2
                    have hjl : (j : Int) < (l.length : Int) := by omega
                    clear hg hg0 hG cN cO e0 e1 e2 e3 q2
                    by_cases t1 : ca = c
                    · have t1' : (ca == c) = true := by simp [t1]
                      by_cases t2 : qa = q
                      · have t2' : (qa == q) = true := by simp [t2]
                        by_cases t3 : fa + na = f
                        · have t3' : (fa + na == f) = true := by simp [t3]
                          have HB : Hid (ckR l = 120) := HYe.out ⟨t1.symm, t2.symm, t3.symm⟩
                          clear t1 t2 t3 HYe HNo
                          refine wp_region_beh (by kernel_rfl) (by kernel_rfl) ?_
                          repeat (go_big_quiet_step ((go_at_call 62; exact Beh.call (cA _))))
                          refine wpQuiet_nil ?_
                          intro wq hw'
                          have hwq := Beh.out hw'
                          clear hw'
                          clear x0 x1 x2 y0 y1 y2 y3 cA
                          go_wp2_with fail
                          go_ret
                          exact ⟨ret_in HB.out.symm, chain hBr (chain q1 hwq)⟩
                        · have t3' : (fa + na == f) = false := by simp [t3]
                          have HC : Hid (Ck l (j + 1 + 1)) := HNo.out (fun h => t3 h.2.2.symm)
                          clear t1 t2 t3 HYe HNo
                          refine wp_region_beh (by kernel_rfl) (by kernel_rfl) ?_
                          repeat (go_big_quiet_step ((go_at_call 62; exact Beh.call (cA _))))
                          refine wpQuiet_nil ?_
                          intro wq hw'
                          have hwq := Beh.out hw'
                          clear hw'
                          clear x0 x1 x2 y0 y1 y2 y3 cA
                          go_wp2_with fail
                          exact ⟨⟨j + 1 + 1, by omega, by go_num, by rw [← HN.out], HC.out, chain hBr (chain q1 hwq)⟩, by simp [Go.RowKit.intOf]; omega⟩
                      · have t2' : (qa == q) = false := by simp [t2]
                        have HC : Hid (Ck l (j + 1 + 1)) := HNo.out (fun h => t2 h.2.1.symm)
                        clear t1 t2 HYe HNo
                        refine wp_region_beh (by kernel_rfl) (by kernel_rfl) ?_
                        repeat (go_big_quiet_step ((go_at_call 62; exact Beh.call (cA _))))
                        refine wpQuiet_nil ?_
                        intro wq hw'
                        have hwq := Beh.out hw'
                        clear hw'
                        clear x0 x1 x2 y0 y1 y2 y3 cA
                        go_wp2_with fail
                        exact ⟨⟨j + 1 + 1, by omega, by go_num, by rw [← HN.out], HC.out, chain hBr (chain q1 hwq)⟩, by simp [Go.RowKit.intOf]; omega⟩
                    · have t1' : (ca == c) = false := by simp [t1]
                      have HC : Hid (Ck l (j + 1 + 1)) := HNo.out (fun h => t1 h.1.symm)
                      clear t1 HYe HNo
                      refine wp_region_beh (by kernel_rfl) (by kernel_rfl) ?_
                      repeat (go_big_quiet_step ((go_at_call 62; exact Beh.call (cA _))))
                      refine wpQuiet_nil ?_
                      intro wq hw'
                      have hwq := Beh.out hw'
                      clear hw'
                      clear x0 x1 x2 y0 y1 y2 y3 cA
                      go_wp2_with fail
                      exact ⟨⟨j + 1 + 1, by omega, by go_num, by rw [← HN.out], HC.out, chain hBr (chain q1 hwq)⟩, by simp [Go.RowKit.intOf]; omega⟩
                · have HB : Hid (ckR l = 120) := ck_bad (k := k + 1) (fun h => by have := h.len; rw [num_take hlt] at this; omega)
                  simp only [h1] at cO
                  clear hck hr hi hsz hlk hbd
                  generalize num (l.take k) = n0 at *
                  generalize cpl l[k].t = n at *
                  generalize l[k].c = c at *
                  generalize l[k].q = q at *
                  generalize l[k].f = f at *
                  generalize l[k].t = t at *
                  go_wp2_with (first | (go_at_call 62; refine (cN _).mono ?_; rintro e w1 ⟨rfl, q1⟩; have e2 := hg _ q1; obtain ⟨e0, e1⟩ := hg0 _ q1) | (go_at_call 63; refine (cO _).mono ?_; rintro e w2 ⟨rfl, q2⟩; replace q1 := chain q1 q2; have e2 := hg _ q1))
                  go_ret
                  exact ⟨ret_in HB.out.symm, chain hBr q1⟩
              · have HB : Hid (ckR l = 120) := ck_bad (k := k + 1) (fun h => by have := ck_dec hlt h; omega)
                simp only [h1] at cO
                clear hck hr hi hsz hlk hbd
                generalize num (l.take k) = n0 at *
                generalize cpl l[k].t = n at *
                generalize l[k].c = c at *
                generalize l[k].q = q at *
                generalize l[k].f = f at *
                generalize l[k].t = t at *
                go_wp2_with (first | (go_at_call 62; refine (cN _).mono ?_; rintro e w1 ⟨rfl, q1⟩; have e2 := hg _ q1; obtain ⟨e0, e1⟩ := hg0 _ q1) | (go_at_call 63; refine (cO _).mono ?_; rintro e w2 ⟨rfl, q2⟩; replace q1 := chain q1 q2; have e2 := hg _ q1))
                go_ret
                exact ⟨ret_in HB.out.symm, chain hBr q1⟩
            · have HB : Hid (ckR l = 120) := ck_bad (k := k + 1) (fun h => by have := ck_dec hlt h; omega)
              simp only [h1] at cO
              clear hck hr hi hsz hlk hbd
              generalize num (l.take k) = n0 at *
              generalize cpl l[k].t = n at *
              generalize l[k].c = c at *
              generalize l[k].q = q at *
              generalize l[k].f = f at *
              generalize l[k].t = t at *
              go_wp2_with (first | (go_at_call 62; refine (cN _).mono ?_; rintro e w1 ⟨rfl, q1⟩; have e2 := hg _ q1; obtain ⟨e0, e1⟩ := hg0 _ q1) | (go_at_call 63; refine (cO _).mono ?_; rintro e w2 ⟨rfl, q2⟩; replace q1 := chain q1 q2; have e2 := hg _ q1))
              go_ret
              exact ⟨ret_in HB.out.symm, chain hBr q1⟩
          · have HB : Hid (ckR l = 120) := ck_bad (k := k + 1) (fun h => by have := ck_dec hlt h; omega)
            simp only [h1] at cO
            clear hck hr hi hsz hlk hbd
            generalize num (l.take k) = n0 at *
            generalize cpl l[k].t = n at *
            generalize l[k].c = c at *
            generalize l[k].q = q at *
            generalize l[k].f = f at *
            generalize l[k].t = t at *
            go_wp2_with (first | (go_at_call 62; refine (cN _).mono ?_; rintro e w1 ⟨rfl, q1⟩; have e2 := hg _ q1; obtain ⟨e0, e1⟩ := hg0 _ q1) | (go_at_call 63; refine (cO _).mono ?_; rintro e w2 ⟨rfl, q2⟩; replace q1 := chain q1 q2; have e2 := hg _ q1))
            go_ret
            exact ⟨ret_in HB.out.symm, chain hBr q1⟩
        · have HB : Hid (ckR l = 120) := ck_bad (k := k + 1) (fun h => by have := ck_dec hlt h; omega)
          simp only [h1] at cO
          clear hck hr hi hsz hlk hbd
          generalize num (l.take k) = n0 at *
          generalize cpl l[k].t = n at *
          generalize l[k].c = c at *
          generalize l[k].q = q at *
          generalize l[k].f = f at *
          generalize l[k].t = t at *
          go_wp2_with (first | (go_at_call 62; refine (cN _).mono ?_; rintro e w1 ⟨rfl, q1⟩; have e2 := hg _ q1; obtain ⟨e0, e1⟩ := hg0 _ q1) | (go_at_call 63; refine (cO _).mono ?_; rintro e w2 ⟨rfl, q2⟩; replace q1 := chain q1 q2; have e2 := hg _ q1))
          go_ret
          exact ⟨ret_in HB.out.symm, chain hBr q1⟩
      · have HB : Hid (ckR l = 120) := ck_bad (k := k + 1) (fun h => h1 (ck_dec hlt h).1)
        replace h1 : orM l[k].c l[k].q = false := by simpa using h1
        simp only [h1] at cO
        clear hck hr hi hsz hlk hbd
        generalize num (l.take k) = n0 at *
        generalize cpl l[k].t = n at *
        generalize l[k].c = c at *
        generalize l[k].q = q at *
        generalize l[k].f = f at *
        generalize l[k].t = t at *
        go_wp2_with (first | (go_at_call 62; refine (cN _).mono ?_; rintro e w1 ⟨rfl, q1⟩; have e2 := hg _ q1; obtain ⟨e0, e1⟩ := hg0 _ q1) | (go_at_call 63; refine (cO _).mono ?_; rintro e w2 ⟨rfl, q2⟩; replace q1 := chain q1 q2; have e2 := hg _ q1))
        go_ret
        exact ⟨ret_in HB.out.symm, chain hBr q1⟩
    · obtain rfl : k = l.length := by omega
      obtain ⟨m1, m2, m3⟩ := ck_end hck
      have ho : ∀ r ∈ l, r.Ok := fun r hr => (may_fit (m1 r hr)).ok
      have hlA : (ats l).length ≤ 1000 := by rw [← num_ats ho]; exact m3
      have hll : l.length ≤ 1000 := Nat.le_trans (tx_bound l ho).2 m3
      have cA := atoms_any (.slice ao l.length cp) l wr (hr.below hBr) ho hsz (fun r hr => by obtain ⟨-, a2, a3, a4⟩ := mayR_iff.1 (m1 r hr); omega) (by omega) (by omega)
      have HG : Hid (((ats l).map Atm.key).Nodup → ckR l = 0) := fun h => ckR_zero.2 (good_from hck h)
      have HB : Hid (¬ ((ats l).map Atm.key).Nodup → ckR l = 120) := nd_bad
      clear hck m1 m2 m3 ho hr hi hsz
      generalize ats l = A at *
      go_wp2_with fail
      refine cA.mono ?_
      rintro e w1 ⟨u1, rfl, ho1, q1⟩
      have rA := rda_own ho1
      obtain ⟨a1, k1, rfl⟩ := own_form ho1
      replace hBr := chain hBr q1
      clear cA ho1 q1
      go_wp2_with fail
      obtain ⟨wz, rfl⟩ : ∃ y, y = wr := ⟨_, rfl⟩
      go_loopw [7] (fun i wr => ∃ (j : Nat), j ≤ A.length ∧ i = .int .i64 (j : Int) ∧ Hid (∀ (i : Nat) (x : Atm), i < j → A[i]? = some x → fdA x A 0 = ((0 + i : Nat) : Int)) ∧ Below w1.heap.size w1 wr) (fun i _ => A.length - (Go.RowKit.intOf i).toNat)
      case atStart => exact ⟨0, Nat.zero_le _, rfl, fun i x h => by omega, Below.refl _ _⟩
      case round =>
        obtain ⟨j, hj, rfl, hfd, hbj⟩ := hrel
        by_cases hjA : j < A.length
        · have hjA' : (j : Int) < (A.length : Int) := by omega
          obtain ⟨y, hy⟩ : ∃ y, A[j]? = some y := ⟨A[j], by simp [hjA]⟩
          have rJ := rA.below hbj
          have cF := rfind_any _ A y wr rJ (by omega)
          obtain ⟨ba, oa, rfl, -, x0, x1, x2, x3⟩ := rda_at rJ hy
          clear rJ
          by_cases hF : fdA y A 0 = (j : Int)
          · have HF : Hid (∀ (i : Nat) (x : Atm), i < j + 1 → A[i]? = some x → fdA x A 0 = ((0 + i : Nat) : Int)) := fun i x hi hx => by
              by_cases e : i < j
              · exact hfd.out i x e hx
              · obtain rfl : i = j := by omega
                rw [hy] at hx
                injection hx with hx
                rw [← hx, hF, Nat.zero_add]
            rw [hF] at cF
            clear hF hy hfd rA
            go_wp2_with (go_at_call 18; refine cF.mono ?_; rintro e w2 ⟨rfl, q2⟩)
            exact ⟨⟨j + 1, by omega, by go_num, HF.out, chain hbj q2⟩, by simp [Go.RowKit.intOf]; omega⟩
          · have HR : Hid (ckR l = 120) := HB.out (fun hd => hF (by have := fdA_nodup A 0 j y hy hd; simpa using this))
            have hF' : (fdA y A 0 == (j : Int)) = false := by simp [hF]
            clear hF hy hfd rA
            generalize fdA y A 0 = F at *
            go_wp2_with (go_at_call 18; refine cF.mono ?_; rintro e w2 ⟨rfl, q2⟩)
            go_ret
            exact ⟨ret_in HR.out.symm, chain hBr (chain hbj q2)⟩
        · obtain rfl : j = A.length := by omega
          have HR : Hid (ckR l = 0) := HG.out (nodup_fdA A 0 (fun i x hx => hfd.out i x (by
            rcases Nat.lt_or_ge i A.length with g | g
            · exact g
            · rw [List.getElem?_eq_none g] at hx; cases hx) hx))
          clear hfd rA
          go_wp2_with fail
          go_ret
          exact ⟨ret_in HR.out.symm, chain hBr hbj⟩
end Go.Proofs.YtofmficdfkeffaaDoor

/-
  The reference's At.
-/
namespace Go.Proofs.YtofmficdfkeffaaDoor
open Go.ChangeShapes Go.WideShapes Go.ChangeAt Go.RowKit Go.PlainAid

/-- The atom's answer. -/
def atX : Option Atm → Int × Int × Int × Bool
  | some x => (x.c, x.q, x.n, true)
  | none => (0, 0, 0, false)
theorem atF_ats : ∀ (l : List RunD), (∀ r ∈ l, r.Ok) → ∀ i : Nat, atF l (i : Int) = atX (ats l)[i]?
  | [], _, i => by simp [atF, ats, atX]
  | r :: l, h, i => by
    have ho : r.Ok := h r (by simp)
    unfold RunD.Ok at ho
    have hpl := pts_len (t := r.t) (by omega)
    have hrl : r.ats.length = (pts r.t).length := by unfold RunD.ats; rw [atG_len]
    rw [atF, ats_cons]
    by_cases hi : (i : Int) < cpl r.t
    · rw [if_pos hi, List.getElem?_append_left (by omega)]
      unfold RunD.ats
      rw [atG_at r.c r.q (pts r.t) r.f i ((pts r.t)[i]'(by omega)) (by simp [show i < (pts r.t).length by omega])]
      rfl
    · rw [if_neg hi, List.getElem?_append_right (by omega), hrl, show (i : Int) - cpl r.t = ((i - (pts r.t).length : Nat) : Int) by omega]
      exact atF_ats l (fun x hx => h x (by simp [hx])) _

end Go.Proofs.YtofmficdfkeffaaDoor

/-
  Documents that came in, of bulk at most 1048576, opened.
-/
namespace Go.Proofs.YtofmficdfkeffaaDoor
open Go.RowKit Go.ChangeShapes Go.WideShapes Go.ChangeAt Go.PlainAid

theorem bulk_pos {H : Type} (d : DataW H) : 1 ≤ Rows.uptoBulk d := by
  cases d with
  | lit l => cases l <;> simp [Rows.uptoBulk]
  | _ => simp [Rows.uptoBulk]
theorem bulk_mem {H : Type} : ∀ {l : List (DataW H)} {d : DataW H}, d ∈ l → Rows.uptoBulk d ≤ Rows.uptoBulkAll l
  | x :: r, d, hd => by
    simp only [Rows.uptoBulkAll]
    rcases List.mem_cons.1 hd with rfl | h
    · omega
    · have := bulk_mem h; omega
theorem up_mem {H : Type} {ds : List (DataW H)} {d : DataW H} (hk : Rows.uptoSmall H ds = true) (h : d ∈ ds) : Rows.uptoBulk d ≤ 1048576 := by
  have h1 : Rows.uptoBulkAll ds ≤ 1048576 := by simpa [Rows.uptoSmall] using hk
  have := bulk_mem h
  omega
theorem bulk_runs {H : Type} : ∀ (l : List RunD) (ds : List (DataW H)), ds.length = l.length → (∀ (i : Nat) r d, l[i]? = some r → ds[i]? = some d → ∃ d0 d1 : DataW H, d = .agg [d0, d1, .lit (.string r.t.data.toList)]) → l.length + (txB l).length ≤ Rows.uptoBulkAll ds
  | [], _, _, _ => by simp [txB]
  | r :: l, [], h, _ => by simp at h
  | r :: l, d :: ds, h, hd => by
    have h1 := bulk_runs l ds (by simpa using h) (fun i r d a b => hd (i + 1) r d (by simpa using a) (by simpa using b))
    obtain ⟨d0, d1, rfl⟩ := hd 0 r d (by simp) (by simp)
    have e : txB (r :: l) = r.t.data.toList ++ txB l := by simp [txB]
    rw [e, List.length_append, List.length_cons]
    simp only [Rows.uptoBulkAll, Rows.uptoBulk]
    omega

set_option maxRecDepth 20000 in
/-- Runs, out of their value, with their data. -/
theorem open_rni {H : Type} {enc : TypeId × Value → H} {w : World} {spare : Nat → Bool} {held : Bool} {fuel : Nat} {ao : Option Addr} {len cap : Nat} {x : DataW H × List MemPlace}
    (h : DataW.trod enc Tryd.prog w 0 spare held fuel 22 (Value.slice ao len cap).cells.toList = some x) :
    ∃ l : List RunD, RdN w (.slice ao len cap) l ∧ (∀ r ∈ l, r.Bd) ∧ (l = [] ∨ ∃ (D : Nat → DataW H) (sp : List (DataW H)), x.1 = .slice ((List.range l.length).map D) sp ∧ ∀ i r, l[i]? = some r → ∃ d0 d1 : DataW H, D i = .agg [d0, d1, .lit (.string r.t.data.toList)]) := by
  rcases Go.Deep.open_slice Tryd.underlying22 h with ⟨hcs, _⟩ | ⟨a, l, c, m, n, D, Pl, hcs, _, hl, hmx, hmm, hx, hall⟩
  · simp [Value.cells] at hcs
    obtain ⟨rfl, rfl, rfl⟩ := hcs
    exact ⟨[], RdN.nil w, by simp, .inl rfl⟩
  · simp [Value.cells] at hcs
    obtain ⟨rfl, rfl, rfl⟩ := hcs
    have hlm : len ≤ m := by rw [hmm]; split <;> omega
    have h4 : Tryd.prog.cellsOf 65 = 4 := by kernel_rfl
    rw [h4] at hall
    obtain ⟨b, off, spot⟩ := a
    have hsp : ∀ i, i < len → spot = none := by
      intro i hi
      obtain ⟨cs', h1, h2⟩ := hall 0 (by omega)
      obtain ⟨o, _, _, rfl, _⟩ := open_rn h2
      obtain ⟨_, _, hcell⟩ := World.cells?_some h1
      have e0 := hcell 0 (by omega)
      simp at e0
      have := World.cell?_spot e0
      simpa [Addr.add] using this
    have each : ∀ i, i < len → ∃ o : RunD, (o.Bd ∧ ∃ d0 d1 : DataW H, D i = .agg [d0, d1, .lit (.string o.t.data.toList)]) ∧ spot = none ∧ b < w.heap.size ∧ w.cell? ⟨b, off + i * 4, none⟩ = some (.int .i64 o.c) ∧ w.cell? ⟨b, off + i * 4 + 1, none⟩ = some (.int .i64 o.q) ∧ w.cell? ⟨b, off + i * 4 + 2, none⟩ = some (.int .i64 o.f) ∧ w.cell? ⟨b, off + i * 4 + 3, none⟩ = some (.string o.t) := by
      intro i hi
      obtain ⟨cs', h1, h2⟩ := hall i (by omega)
      obtain ⟨o, d0, d1, rfl, ho, hd⟩ := open_rn h2
      obtain ⟨_, _, hcell⟩ := World.cells?_some h1
      have e0 := hcell 0 (by omega)
      have e1 := hcell 1 (by omega)
      have e2 := hcell 2 (by omega)
      have e3 := hcell 3 (by omega)
      rw [Go.Deep.add_add] at e0 e1 e2 e3
      simp at e0 e1 e2 e3
      obtain rfl := hsp i hi
      have hadd : ∀ k, (⟨b, off, none⟩ : Addr).add k = ⟨b, off + k, none⟩ := fun k => by unfold Addr.add; split <;> simp_all
      rw [hadd] at e0 e1 e2 e3
      simp only at hd
      exact ⟨o, ⟨ho, d0, d1, hd⟩, rfl, World.block_lt_of_cell? w _ e0, e0, by rw [Nat.add_assoc]; exact e1, by rw [Nat.add_assoc]; exact e2, by rw [Nat.add_assoc]; exact e3⟩
    obtain ⟨f, hf⟩ := @Go.Deep.choose_lt RunD ⟨⟨0, 0, 0, ⟨#[]⟩⟩⟩ _ _ each
    have hlen : ((List.range len).map f).length = len := by simp
    refine ⟨(List.range len).map f, ⟨some ⟨b, off, spot⟩, cap, by rw [hlen], by rw [hlen]; omega, fun i o ho => ?_⟩, fun o ho => ?_, .inr ⟨D, _, by rw [hlen, hx], fun i r hr => ?_⟩⟩
    · have hi : i < len := by
        have := (List.getElem?_eq_some_iff.1 ho).1
        simpa using this
      simp [hi] at ho
      subst ho
      obtain ⟨_, rfl, r⟩ := hf i hi
      exact ⟨b, off, rfl, r⟩
    · obtain ⟨i, hi, rfl⟩ := List.mem_map.1 ho
      exact (hf i (List.mem_range.1 hi)).1.1
    · have hi : i < len := by
        have := (List.getElem?_eq_some_iff.1 hr).1
        simpa using this
      simp [hi] at hr
      subst hr
      exact (hf i hi).1.2


theorem open_rnu {H : Type} {enc : TypeId × Value → H} {w : World} {spare : Nat → Bool} {held : Bool} {fuel : Nat} {ao : Option Addr} {len cap : Nat} {x : DataW H × List MemPlace}
    (h : DataW.trod enc Tryd.prog w 0 spare held fuel 22 (Value.slice ao len cap).cells.toList = some x) (hz : Rows.uptoBulk x.1 ≤ 1048576) :
    ∃ l : List RunD, RdN w (.slice ao len cap) l ∧ (l.length ≤ 1048576 ∧ (txB l).length ≤ 1048576) ∧ ∀ r ∈ l, r.Bd := by
  obtain ⟨l, h1, h2, h3⟩ := open_rni h
  refine ⟨l, h1, ?_, h2⟩
  rcases h3 with rfl | ⟨D, sp, hx, hD⟩
  · simp [txB]
  · rw [hx] at hz
    simp only [Rows.uptoBulk] at hz
    have := bulk_runs l ((List.range l.length).map D) (by simp) (fun i r d a b => by
      have hi : i < l.length := (List.getElem?_eq_some_iff.1 a).1
      simp [hi] at b
      rw [← b]
      exact hD i r a)
    omega
end Go.Proofs.YtofmficdfkeffaaDoor
