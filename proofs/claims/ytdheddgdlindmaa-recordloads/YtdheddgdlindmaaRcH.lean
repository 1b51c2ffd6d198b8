/-
  record: Pairs.
-/
import Derived.Test.YtdheddgdlindmaaRcG
namespace Go.Proofs.Ytdheddgdlindmaa
open Go.WideShapes Go.RowKit Go.ChangeShapes Go.ChangeAt Go.PlainAid

theorem rwG_all {α : Type} {num : α → Int} {right : α → Bool} {last : Int} : ∀ {l : List α} {a : Int}, rwG num right last a l = true → ∀ x ∈ l, a < num x ∧ num x ≤ last ∧ right x = true
  | [], _, _, x, hx => by cases hx
  | y :: l, a, h, x, hx => by
    rw [rwG] at h
    split at h
    · cases h
    · rename_i hc
      rcases List.mem_cons.1 hx with rfl | hx
      · refine ⟨by omega, by omega, ?_⟩
        cases hr : right x with
        | true => rfl
        | false => exact absurd (.inr (.inr hr)) hc
      · have := rwG_all h x hx
        exact ⟨by omega, this.2⟩
theorem rwB_all {α : Type} {num : α → Int} {right : α → Bool} {most : Nat} {last : Int} {l : List α} (h : rwB num right most last l = true) : l.length ≤ most ∧ ∀ x ∈ l, 0 < num x ∧ num x ≤ last ∧ right x = true := by
  unfold rwB at h
  simp only [Bool.and_eq_true, decide_eq_true_eq] at h
  exact ⟨h.1, rwG_all h.2⟩
/-- A state that has a form. -/
structure StOk (S : StD) : Prop where
  c0 : 1 ≤ S.nc
  c1 : S.nc ≤ 1000000
  b0 : 1 ≤ S.nb
  b1 : S.nb ≤ 1000000
  cl : S.cs.length ≤ 300
  cs : ∀ x ∈ S.cs, 1 ≤ x.n ∧ x.n ≤ 65535 ∧ coF x = true
  bl : S.bs.length ≤ 20
  bs : ∀ x ∈ S.bs, 1 ≤ x.i ∧ x.i ≤ 65535 ∧ brF x = true
  ul : S.us.length ≤ 8
  us : ∀ x ∈ S.us, 1 ≤ x.c ∧ x.c ≤ 8 ∧ cuF x = true
theorem st_ok {S : StD} (h : stF S = true) : StOk S := by
  unfold stF at h
  simp only [Bool.and_eq_true] at h
  obtain ⟨h1, h2, h3, h4⟩ := h
  have w := wtl_iff.1 h1
  simp at w
  have r2 := rwB_all h2
  have r3 := rwB_all h3
  have r4 := rwB_all h4
  refine ⟨by omega, by omega, by omega, by omega, r2.1, fun x hx => ?_, r3.1, fun x hx => ?_, r4.1, fun x hx => ?_⟩
  · have := r2.2 x hx; exact ⟨by omega, by omega, this.2.2⟩
  · have := r3.2 x hx; exact ⟨by omega, by omega, this.2.2⟩
  · have := r4.2 x hx; exact ⟨by omega, by omega, this.2.2⟩
theorem nums_ok {l : List Int} {m : Nat} (hl : l.length ≤ m) (hm : m ≤ 1000000) (h : wtl 1 1000000 l = true) : NumsOk l := ⟨by omega, fun n hn => by have := wtl_iff.1 h n hn; omega⟩
theorem brF_nums {x : BrD} (h : brF x = true) : NumsOk x.lg := by
  unfold brF at h
  simp only [Bool.and_eq_true, decide_eq_true_eq] at h
  exact nums_ok h.2.1 (by decide) h.2.2
theorem coF_facts {x : CoD} (h : coF x = true) : NumsOk x.ps ∧ 0 ≤ x.c ∧ x.c ≤ 8 ∧ 0 ≤ x.s ∧ x.s ≤ 100000 := by
  unfold coF at h
  simp only [Bool.and_eq_true, decide_eq_true_eq] at h
  exact ⟨nums_ok h.1 (by decide) h.2.1, h.2.2.2.2.1.1, h.2.2.2.2.1.2, h.2.2.2.2.2.1, h.2.2.2.2.2.2⟩
theorem cuF_facts {x : CuD} (h : cuF x = true) : 1 ≤ x.b ∧ x.b ≤ 1000000 ∧ 1 ≤ x.s ∧ x.s ≤ 100000 := by
  unfold cuF at h
  simp only [Bool.and_eq_true, decide_eq_true_eq] at h
  exact ⟨h.1.1.1, h.1.1.2, h.1.2, h.2⟩
/-- A state's pairs. -/
def prD (S : StD) : List PaD := S.bs.map brP ++ S.cs.map coP ++ [nxP S.nc S.nb] ++ S.us.map cuP
/-- What Pairs gives. -/
def prE (S : StD) : List PaD × Int := if stF S = true then (prD S, 0) else ([], 150)
theorem sh_new (w : World) : IsSh w.heap.size w.heap.size [] [] (w.alloc (.cells #[.pointer none, .slice none 0 0, .slice none 0 0] 56)) :=
  .inl ⟨Nat.le_refl _, _, _, heap_alloc_new w _, World.ownsRow_nil _ _ _ _, World.ownsRow_nil _ _ _ _⟩
theorem map_take_succ {α : Type} (f : α → PaD) (l : List α) (k : Nat) (h : k < l.length) : (l.take (k + 1)).map f = (l.take k).map f ++ [f l[k]] := by
  rw [List.take_succ_eq_append_getElem h, List.map_append]; rfl
set_option maxRecDepth 20000 in
set_option maxHeartbeats 3000000 in
theorem pairs_any (S : StD) (v1 v2 v3 : Value) (w : World) (hr : RdSt w v1 v2 v3 S) (hF : S.Fit) :
    Calls Try.prog 9 #[.agg (S.fs v1 v2 v3)] w fun e w' => ∃ dv, e = .returned (.tuple #[dv, .int .i64 (prE S).2]) ∧ w'.ownsRow w.heap.size 44 2 dv (prE S).1.length (pcs (prE S).1) ∧ Below w.heap.size w w' := by
  have hal := alloc_bR w (.cells (S.fs v1 v2 v3) 26)
  have hx := sb_new w S v1 v2 v3
  have c1 := hasForm_any S v1 v2 v3 _ (hr.below hal) hF
  have hr1 := hr.below hal
  obtain ⟨a1, k1, e1, -⟩ := hr.c
  subst e1
  obtain ⟨a2, k2, e2, -⟩ := hr.b
  subst e2
  obtain ⟨a3, k3, e3, -⟩ := hr.u
  subst e3
  obtain ⟨R, HR⟩ : ∃ R, Hid (prE S = R) := ⟨_, rfl⟩
  rw [HR.out]
  have Hp : stF S = true → R = (prD S, 0) := fun h => by rw [← HR.out, prE, if_pos h]
  have Hn : stF S = false → R = ([], 150) := fun h => by rw [← HR.out, prE, if_neg (by rw [h]; decide)]
  have Hok := @st_ok S
  clear hr HR
  generalize hw1 : w.alloc (.cells (S.fs (.slice a1 S.cs.length k1) (.slice a2 S.bs.length k2) (.slice a3 S.us.length k3)) 26) = w1 at *
  obtain ⟨nc, nb, cs, bs, us⟩ := S
  simp only [StD.fs] at *
  obtain ⟨x0, x1, x2, x3, x4⟩ := cellsSB hx
  simp only at x0 x1 x2 x3 x4
  generalize stF ⟨nc, nb, cs, bs, us⟩ = t1 at *
  go_enter Try.func9, Try.ntmps9
  go_wp2_with fail
  refine c1.mono ?_
  rintro e w3 ⟨rfl, hb3⟩
  have hB3 := hal.trans (hb3.mono hal.size)
  have hx3 := hx.below hb3
  have hr3 := hr1.below hb3
  clear x0 x1 x2 x3 x4 c1 hx hr1
  cases t1 with
  | false =>
    have e := Hn rfl
    subst e
    clear Hp Hn Hok
    go_wp2_with fail
    go_ret2
    exact ⟨_, rfl, World.ownsRow_nil _ _ _ _, hB3⟩
  | true =>
    have e := Hp rfl
    have hok := Hok rfl
    subst e
    clear Hp Hn Hok
    have hI4 := sh_new w3
    have hal4 := alloc_bR w3 (.cells #[.pointer none, .slice none 0 0, .slice none 0 0] 56)
    have hSB : ∀ W', Below w3.heap.size w3 W' → W'.cell? ⟨w.heap.size, 0, none⟩ = some (.int .i64 nc) ∧ W'.cell? ⟨w.heap.size, 1, none⟩ = some (.int .i64 nb) ∧ W'.cell? ⟨w.heap.size, 2, none⟩ = some (.slice a1 cs.length k1) ∧ W'.cell? ⟨w.heap.size, 3, none⟩ = some (.slice a2 bs.length k2) ∧ W'.cell? ⟨w.heap.size, 4, none⟩ = some (.slice a3 us.length k3) := fun W' h => cellsSB (hx3.below h)
    obtain ⟨x0, x1, x2, x3, x4⟩ := hSB _ hal4
    have hcl := hok.cl
    have hbl0 := hok.bl
    have hul := hok.ul
    simp only at hcl hbl0 hul
    generalize hw4 : w3.alloc (.cells #[.pointer none, .slice none 0 0, .slice none 0 0] 56) = w4 at *
    go_wp2_with fail
    clear x0 x1 x2 x3 x4
    clear hw4
    go_loopw [17] (fun i wr => ∃ k : Nat, k ≤ bs.length ∧ i = .int .i64 (k : Int) ∧ IsSh w3.heap.size w3.heap.size [] ((bs.take k).map brP) wr ∧ Below w3.heap.size w3 wr) (fun i _ => bs.length - (Go.RowKit.intOf i).toNat)
    case atStart => exact ⟨0, by omega, rfl, by simpa using hI4, hal4⟩
    case round =>
      obtain ⟨k, hk, rfl, hI, hbl⟩ := hrel
      by_cases hlt : k < bs.length
      · have hlt' : (k : Int) < (bs.length : Int) := by omega
        obtain ⟨ao', cp', ev, hcs⟩ := hr3.b
        simp only [Value.slice.injEq] at ev
        obtain ⟨rfl, -, rfl⟩ := ev
        obtain ⟨b, off, lv, rfl, hl, ⟨c0, c1, c2⟩, s0⟩ := hcs k bs[k] (by simp [hlt])
        have hxo := hok.bs bs[k] (List.getElem_mem hlt)
        have HT := map_take_succ brP bs k hlt
        have hDl : ((bs.take k).map brP).length ≤ 1000000 := by simp; omega
        have hft := hF.bs bs[k] (List.getElem_mem hlt)
        rw [← hbl.cell (p := ⟨b, _, none⟩) hl] at c0 c1 c2
        generalize bs[k] = x at *
        obtain ⟨a5, k5, rfl⟩ := rdi_len s0
        have halE := alloc_bR wr (.cells #[.int .i64 x.i, .string x.nm, .slice a5 x.lg.length k5] 50)
        have hBE := hbl.trans (lowB halE hbl.size)
        have cS := branchS_any w3.heap.size w3.heap.size _ x (.slice a5 x.lg.length k5) _ (hI.below halE) (fun W' _ h => s0.below (hBE.trans h)) hxo.1 hxo.2.1 (by have := hft.nm; unfold maxLen; omega) (brF_nums hxo.2.2) hDl
        clear hcs hxo
        go_wp2_with fail
        refine cS.mono ?_
        rintro e w5 ⟨rfl, hI5, hb5, -⟩
        rw [← HT] at hI5
        go_wp2_with fail
        exact ⟨⟨k + 1, by omega, by go_num, hI5, hBE.trans hb5⟩, by simp [Go.RowKit.intOf]; omega⟩
      · have hlt' : ¬ (k : Int) < (bs.length : Int) := by omega
        rw [List.take_of_length_le (by omega)] at hI
        obtain ⟨x0, x1, x2, x3, x4⟩ := hSB _ hbl
        go_wp2_with fail
        clear x0 x1 x2 x3 x4
        go_loopw [27] (fun i wr => ∃ k : Nat, k ≤ cs.length ∧ i = .int .i64 (k : Int) ∧ IsSh w3.heap.size w3.heap.size [] (bs.map brP ++ (cs.take k).map coP) wr ∧ Below w3.heap.size w3 wr) (fun i _ => cs.length - (Go.RowKit.intOf i).toNat)
        case atStart => exact ⟨0, by omega, rfl, by simpa using hI, hbl⟩
        case round =>
          obtain ⟨k, hk, rfl, hI, hbl⟩ := hrel
          by_cases hlt : k < cs.length
          · have hlt' : (k : Int) < (cs.length : Int) := by omega
            obtain ⟨ao', cp', ev, hcs⟩ := hr3.c
            simp only [Value.slice.injEq] at ev
            obtain ⟨rfl, -, rfl⟩ := ev
            obtain ⟨b, off, pv, dv, ov, rfl, hl, ⟨c0, c1, c2, c3, c4, c5⟩, s0, s1, s2⟩ := hcs k cs[k] (by simp [hlt])
            have hxo := hok.cs cs[k] (List.getElem_mem hlt)
            have HT := map_take_succ coP cs k hlt
            have hDl : (bs.map brP ++ (cs.take k).map coP).length ≤ 1000000 := by simp; omega
            have hft := hF.cs cs[k] (List.getElem_mem hlt)
            rw [← hbl.cell (p := ⟨b, _, none⟩) hl] at c0 c1 c2 c3 c4 c5
            generalize cs[k] = x at *
            obtain ⟨a5, k5, rfl⟩ := rdi_len s0
            obtain ⟨a6, k6, e6, -⟩ := id s1
            subst e6
            obtain ⟨a7, k7, e7, -⟩ := id s2
            subst e7
            obtain ⟨q1, q2, q3, q4, q5⟩ := coF_facts hxo.2.2
            have halE := alloc_bR wr (.cells #[.int .i64 x.n, .slice a5 x.ps.length k5, .slice a6 x.d.length k6, .slice a7 x.o.length k7, .int .i64 x.c, .int .i64 x.s] 48)
            have hBE := hbl.trans (lowB halE hbl.size)
            have cS := commitS_any w3.heap.size w3.heap.size _ x (.slice a5 x.ps.length k5) (.slice a6 x.d.length k6) (.slice a7 x.o.length k7) _ (hI.below halE) (fun W' _ h => s0.below (hBE.trans h)) (fun W' _ h => s1.below (hBE.trans h)) (fun W' _ h => s2.below (hBE.trans h)) hxo.1 hxo.2.1 q1 hft.dl hft.di hft.ol hft.oi q2 q3 q4 q5 hDl
            clear hcs hxo
            go_wp2_with fail
            refine cS.mono ?_
            rintro e w5 ⟨rfl, hI5, hb5, -⟩
            rw [List.append_assoc, ← HT] at hI5
            go_wp2_with fail
            exact ⟨⟨k + 1, by omega, by go_num, hI5, hBE.trans hb5⟩, by simp [Go.RowKit.intOf]; omega⟩
          · have hlt' : ¬ (k : Int) < (cs.length : Int) := by omega
            rw [List.take_of_length_le (by omega)] at hI
            have cX := nextS_any w3.heap.size w3.heap.size (bs.map brP ++ cs.map coP) nc nb (.slice a1 cs.length k1) (.slice a2 bs.length k2) (.slice a3 us.length k3) wr hI (by have := hok.c0; simp only at this; omega) hok.c1 (by have := hok.b0; simp only at this; omega) hok.b1 rfl rfl rfl (by simp; omega)
            obtain ⟨x0, x1, x2, x3, x4⟩ := hSB _ hbl
            go_wp2_with fail
            refine cX.mono ?_
            rintro e w6 ⟨rfl, hI6, hb6, -⟩
            have hB6 := hbl.trans hb6
            clear x0 x1 x2 x3 x4 cX hI hbl
            obtain ⟨x0, x1, x2, x3, x4⟩ := hSB _ hB6
            go_wp2_with fail
            clear x0 x1 x2 x3 x4
            go_loopw [39] (fun i wr => ∃ k : Nat, k ≤ us.length ∧ i = .int .i64 (k : Int) ∧ IsSh w3.heap.size w3.heap.size [] (bs.map brP ++ cs.map coP ++ [nxP nc nb] ++ (us.take k).map cuP) wr ∧ Below w3.heap.size w3 wr) (fun i _ => us.length - (Go.RowKit.intOf i).toNat)
            case atStart => exact ⟨0, by omega, rfl, by simpa using hI6, hB6⟩
            case round =>
              obtain ⟨k, hk, rfl, hI, hbl⟩ := hrel
              by_cases hlt : k < us.length
              · have hlt' : (k : Int) < (us.length : Int) := by omega
                obtain ⟨ao', cp', ev, hcs⟩ := hr3.u
                simp only [Value.slice.injEq] at ev
                obtain ⟨rfl, -, rfl⟩ := ev
                obtain ⟨b, off, rfl, hl, ⟨c0, c1, c2⟩⟩ := hcs k us[k] (by simp [hlt])
                have hxo := hok.us us[k] (List.getElem_mem hlt)
                have HT := map_take_succ cuP us k hlt
                have hDl : (bs.map brP ++ cs.map coP ++ [nxP nc nb] ++ (us.take k).map cuP).length ≤ 1000000 := by simp; omega
                have hft := hbl.size
                rw [← hbl.cell (p := ⟨b, _, none⟩) hl] at c0 c1 c2
                generalize us[k] = x at *
                obtain ⟨q1, q2, q3, q4⟩ := cuF_facts hxo.2.2
                have halE := alloc_bR wr (.cells #[.int .i64 x.c, .int .i64 x.b, .int .i64 x.s] 61)
                have hBE := hbl.trans (lowB halE hbl.size)
                have cS := clientS_any w3.heap.size w3.heap.size _ x _ (hI.below halE) hxo.1 hxo.2.1 (by omega) q2 (by omega) q4 hDl
                clear hcs hxo
                go_wp2_with fail
                refine cS.mono ?_
                rintro e w5 ⟨rfl, hI5, hb5, -⟩
                rw [List.append_assoc, ← HT] at hI5
                go_wp2_with fail
                exact ⟨⟨k + 1, by omega, by go_num, hI5, hBE.trans hb5⟩, by simp [Go.RowKit.intOf]; omega⟩
              · have hlt' : ¬ (k : Int) < (us.length : Int) := by omega
                rw [List.take_of_length_le (by omega)] at hI
                have c9 : ∃ dv PD, Hid (PD = prD ⟨nc, nb, cs, bs, us⟩) ∧ wr.cell? ⟨w3.heap.size, 2, none⟩ = some dv ∧ wr.ownsRow w3.heap.size 44 2 dv PD.length (pcs PD) := by
                  rcases hI with ⟨-, _, dv, hk, -, hd⟩ | ⟨-, _, dv, hk, -, hd⟩ <;> exact ⟨dv, _, rfl, (cells3S hk).2.2, hd⟩
                obtain ⟨dv, PD, HPD, c9, hd⟩ := c9
                obtain ⟨a9, k9, rfl⟩ := own_form hd
                have h9 : wr.ownsRow w.heap.size 44 2 (.slice a9 PD.length k9) (prD ⟨nc, nb, cs, bs, us⟩).length (pcs (prD ⟨nc, nb, cs, bs, us⟩)) := by
                  rw [← HPD.out]
                  exact own_lower hd hB3.size
                clear hI hd
                go_wp2_with fail
                go_ret2
                exact ⟨_, rfl, h9, hB3.trans (hbl.mono hB3.size)⟩
end Go.Proofs.Ytdheddgdlindmaa
