/-
  Proved: what was swept has nothing more to be swept (the law GcAgain), for every input.
-/
import Derived.Test.YthhdpabelcgfjaaGcF
import Derived.Test.YthhdpabelcgfjaaStF
import Derived.Test.YthhdpabelcgfjaaRows
namespace Go.Proofs.Ythhdpabelcgfjaa.gcAgain
open Go.Maps Go.ChangeShapes Go.WideShapes Go.ChangeAt Go.RowKit Go.PlainAid

def phGa (p1 p3 : Nat) (nc nb d : Int) (cs Kp : List CoD) (bs : List BrD) (us : List CuD) (a1 a2 a3 aD aB aU aE aF aG : Option Addr) (ka1 ka2 ka3 kaD kaB kaU kaE kaF kaG : Nat) : Nat → Value → World → Prop
  | 0, v, _ => v = (.bool true)
  | 1, v, _ => v = (.bool true)
  | 2, v, _ => v = (.int .i64 d)
  | 3, v, _ => v = (.bool true)
  | 4, v, _ => v = (.bool true)
  | 5, v, _ => v = (.bool true)
  | 6, v, _ => v = (.int .i64 0)
  | 7, v, _ => v = (.bool true)
  | 8, v, _ => v = (.bool true)
  | 9, v, _ => v = (.bool true)
  | 10, v, _ => v = (.pointer (some ⟨p3, 2, none⟩))
  | 11, v, _ => v = (.slice aD Kp.length kaD)
  | 12, v, _ => v = (.int .i64 (Kp.length : Int))
  | 13, v, _ => v = (.int .i64 d)
  | 14, v, _ => v = (.int .i64 (cs.length : Int))
  | 15, v, _ => v = (.pointer (some ⟨p1, 2, none⟩))
  | 16, v, _ => v = (.slice a1 cs.length ka1)
  | 17, v, _ => v = (.int .i64 (cs.length : Int))
  | 18, v, _ => v = (.bool true)
  | 19, v, _ => v = (.bool true)
  | 20, v, _ => v = (.bool true)
  | 21, v, _ => v = (.agg #[.int .i64 nc, .int .i64 nb, .slice aD Kp.length kaD, .slice aB bs.length kaB, .slice aU us.length kaU])
  | 22, v, _ => v = (.agg #[.int .i64 nc, .int .i64 nb, .slice aE Kp.length kaE, .slice aF bs.length kaF, .slice aG us.length kaG])
  | 23, v, _ => v = (.bool true)
  | 24, v, _ => v = (.bool true)
  | 25, v, _ => v = (.bool true)
  | 26, v, _ => v = (.agg #[.int .i64 nc, .int .i64 nb, .slice aD Kp.length kaD, .slice aB bs.length kaB, .slice aU us.length kaU])
  | 27, v, W => ∃ a k L, v = .slice a L.length k ∧ RdI W (.slice a L.length k) L ∧ SrtNeed Kp bs L
  | 28, v, _ => v = (.agg #[.int .i64 nc, .int .i64 nb, .slice a1 cs.length ka1, .slice a2 bs.length ka2, .slice a3 us.length ka3])
  | 29, v, W => ∃ a k L, v = .slice a L.length k ∧ RdI W (.slice a L.length k) L ∧ SrtNeed cs bs L
  | 30, v, _ => v = (.bool true)
  | 31, v, _ => v = (.bool true)
  | 32, v, _ => v = (.bool true)
  | _, _, _ => True

theorem phGa_stays {p1 p3 : Nat} {nc nb d : Int} {cs Kp : List CoD} {bs : List BrD} {us : List CuD} {a1 a2 a3 aD aB aU aE aF aG : Option Addr} {ka1 ka2 ka3 kaD kaB kaU kaE kaF kaG : Nat} (i : Nat) (v : Value) (w w' : World) (h : phGa p1 p3 nc nb d cs Kp bs us a1 a2 a3 aD aB aU aE aF aG ka1 ka2 ka3 kaD kaB kaU kaE kaF kaG i v w) (hg : Below w.heap.size w w') : phGa p1 p3 nc nb d cs Kp bs us a1 a2 a3 aD aB aU aE aF aG ka1 ka2 ka3 kaD kaB kaU kaE kaF kaG i v w' := by
  unfold phGa at h ⊢
  split at h
  all_goals first
    | exact h
    | (obtain ⟨a, k, L, e, ho, hs⟩ := h; exact ⟨a, k, L, e, ho.below hg, hs⟩)
    | trivial
theorem srt_short {cs : List CoD} {bs : List BrD} {L : List Int} (h : SrtNeed cs bs L) (hl : cs.length * 96 ≤ 140737488355328) : L.length ≤ 9223372036854775000 := by
  have hnd : L.Nodup := h.1.imp (fun hab e => by omega)
  have := nodup_len (K := cs.map CoD.n) hnd (fun n hn => (fdC_mem cs n).1 ((h.2 n).1 hn).fd)
  rw [List.length_map] at this
  omega

set_option maxRecDepth 20000 in
set_option maxHeartbeats 4000000 in
theorem walk (S : StD) (v1 v2 v3 : Value) (w : World) (hr : RdSt w v1 v2 v3 S) (hU : StU false S) :
    Calls Try.prog 4 #[.agg (S.fs v1 v2 v3)] w fun e w' => e = .returned (.bool true) ∧ Below w.heap.size w w' := by
  obtain ⟨a1, ka1, e1, -⟩ := id hr.c
  subst e1
  obtain ⟨a2, ka2, e2, -⟩ := id hr.b
  subst e2
  obtain ⟨a3, ka3, e3, -⟩ := id hr.u
  subst e3
  have hp0 := sb_new w S (.slice a1 S.cs.length ka1) (.slice a2 S.bs.length ka2) (.slice a3 S.us.length ka3)
  have hb0 := alloc_bR w (.cells (S.fs (.slice a1 S.cs.length ka1) (.slice a2 S.bs.length ka2) (.slice a3 S.us.length ka3)) 26)
  have hr0 := hr.below hb0
  have c1 := sweep_any S _ _ _ _ hr0 hU
  have cN1 := fun W (h : Below w.heap.size w W) => needed_any S _ _ _ W (hr.below h) hU
  have hlc := hU.cl.1
  have hK := fun M => hU.kept M
  have hls := hU.ls
  obtain ⟨x0, x1, x2, x3, x4⟩ := cellsSB hp0
  clear hr hr0 hU
  obtain ⟨nc, nb, cs, bs, us⟩ := S
  simp only [StD.fs] at *
  go_enter Try.func4, Try.ntmps4
  go_wp2_with fail
  generalize w.alloc (.cells #[.int .i64 nc, .int .i64 nb, .slice a1 cs.length ka1, .slice a2 bs.length ka2, .slice a3 us.length ka3] 26) = w1 at *
  refine c1.mono ?_
  rintro e w2 ⟨u1, u2, u3, M, rfl, hN, ⟨uc, ul, ho⟩, hb2⟩
  obtain ⟨aD, kaD, rfl⟩ := own_form ho.c.row
  obtain ⟨aB, kaB, rfl⟩ := own_form ho.b.row
  obtain ⟨aU, kaU, rfl⟩ := own_form ho.u
  have hUK := hK M
  have hst2 := ho.rd
  obtain ⟨HS⟩ : Nonempty (Hid (∀ L K, SrtNeed (kept M cs) bs L → SrtNeed cs bs K → L = K)) := ⟨fun L K h1 h2 => srt_kept hN h1 h2⟩
  obtain ⟨HK⟩ : Nonempty (Hid (∀ K, IsNeed (kept M cs) bs K → kept K (kept M cs) = kept M cs)) := ⟨fun K h => kept_again hN h⟩
  have hKl : (kept M cs).length ≤ cs.length := List.length_filter_le _ _
  simp only at hUK hst2
  generalize kept M cs = Kp at *
  have hb02 := hb0.trans (hb2.mono hb0.size)
  have hp2 := hp0.below hb2
  have hal := alloc_bR w2 (.cells #[.int .i64 nc, .int .i64 nb, .slice aD Kp.length kaD, .slice aB bs.length kaB, .slice aU us.length kaU] 26)
  have hq3 : SB (w2.alloc (.cells #[.int .i64 nc, .int .i64 nb, .slice aD Kp.length kaD, .slice aB bs.length kaB, .slice aU us.length kaU] 26)) w2.heap.size ⟨nc, nb, Kp, bs, us⟩ (.slice aD Kp.length kaD) (.slice aB bs.length kaB) (.slice aU us.length kaU) := sb_new w2 ⟨nc, nb, Kp, bs, us⟩ _ _ _
  have hp3 := hp2.below hal
  have hst3 := hst2.below hal
  have hb03 := hb02.trans (hal.mono hb02.size)
  clear x0 x1 x2 x3 x4 c1 hp0 hb0 hN ho hK hp2 hb2 hb02 hal
  go_upto_region 2 with fail
  generalize hP3 : w2.heap.size = p3 at *
  generalize w2.alloc (.cells #[.int .i64 nc, .int .i64 nb, .slice aD Kp.length kaD, .slice aB bs.length kaB, .slice aU us.length kaU] 26) = w3 at *
  have c2 := sweep_any _ _ _ _ _ hst3 hUK
  have cN3 := fun W (h : Below w3.heap.size w3 W) => needed_any _ _ _ _ W (hst3.below h) hUK
  simp only [StD.fs] at c2 cN3
  obtain ⟨x0, x1, x2, x3, x4⟩ := cellsSB hq3
  go_wp2_with fail
  refine c2.mono ?_
  rintro e w4 ⟨u1, u2, u3, M2, rfl, hN2, ⟨uc2, ul2, ho4⟩, hb4⟩
  have eK := HK.out _ hN2
  rw [eK] at ho4
  obtain ⟨aE, kaE, rfl⟩ := own_form ho4.c.row
  obtain ⟨aF, kaF, rfl⟩ := own_form ho4.b.row
  obtain ⟨aG, kaG, rfl⟩ := own_form ho4.u
  have hst4 := ho4.rd
  simp only at hst4 ⊢
  rw [eK, Int.sub_self]
  have hb04 := hb03.trans (hb4.mono hb03.size)
  have hp4 := hp3.below hb4
  have hq4 := hq3.below hb4
  have hst34 := hst3.below hb4
  have hal := alloc_bR w4 (.cells #[.int .i64 nc, .int .i64 nb, .slice aE Kp.length kaE, .slice aF bs.length kaF, .slice aG us.length kaG] 26)
  have hS5 : SB (w4.alloc (.cells #[.int .i64 nc, .int .i64 nb, .slice aE Kp.length kaE, .slice aF bs.length kaF, .slice aG us.length kaG] 26)) w4.heap.size ⟨nc, nb, Kp, bs, us⟩ (.slice aE Kp.length kaE) (.slice aF bs.length kaF) (.slice aG us.length kaG) := sb_new w4 ⟨nc, nb, Kp, bs, us⟩ _ _ _
  have hS1 := hp4.below hal
  have hS3 := hq4.below hal
  have hst5 := hst4.below hal
  have hst35 := hst34.below hal
  have hb05 := hb04.trans (hal.mono hb04.size)
  have hb35 := hb4.trans (hal.mono hb4.size)
  clear x0 x1 x2 x3 x4 c2 hp3 hq3 hb03 hp4 hq4 hb04 hb4 ho4 hN2 HK eK hst4 hst34 hst3 hal
  go_upto_region 3 with fail
  generalize hP5 : w4.heap.size = p5 at *
  generalize w4.alloc (.cells #[.int .i64 nc, .int .i64 nb, .slice aE Kp.length kaE, .slice aF bs.length kaF, .slice aG us.length kaG] 26) = w5 at *
  clear hP3 hP5
  have hdw : Below w5.heap.size w5 w5.drew := (Below.refl _ _).drew
  replace hS1 := hS1.below hdw
  replace hS3 := hS3.below hdw
  replace hS5 := hS5.below hdw
  replace hst5 := hst5.below hdw
  replace hst35 := hst35.below hdw
  replace hb05 := hb05.trans (hdw.mono hb05.size)
  replace hb35 := hb35.trans (hdw.mono hb35.size)
  replace cN1 := fun W (h : Below w5.drew.heap.size w5.drew W) => cN1 W (hb05.trans (h.mono hb05.size))
  replace cN3 := fun W (h : Below w5.drew.heap.size w5.drew W) => cN3 W (hb35.trans (h.mono hb35.size))
  have cSame := fun W (h : Below w5.drew.heap.size w5.drew W) => same15_true ⟨nc, nb, Kp, bs, us⟩ _ _ _ _ _ _ W (hst35.below h) (hst5.below h) hUK.fit (by have := hUK.ls; exact this)
  simp only [StD.fs] at cSame
  clear hst5 hst35 hst2 hUK hdw
  obtain ⟨d, hd⟩ : ∃ d, d = (cs.length : Int) - (Kp.length : Int) := ⟨_, rfl⟩
  rw [← hd]
  have hd0 : 0 ≤ d := by omega
  have hd1 : decide (d ≥ 0) = true := decide_eq_true hd0
  have hd2 : IntKind.i64.wrap (cs.length : Int) = (cs.length : Int) := wraps_i64 _ (by omega) (by omega)
  have hd3 : (Kp.length : Int) + d = (cs.length : Int) := by omega
  clear hd
  refine mono.region_monoG (phGa w.heap.size p3 nc nb d cs Kp bs us a1 a2 a3 aD aB aU aE aF aG ka1 ka2 ka3 kaD kaB kaU kaE kaF kaG) 49 [] [0, 1, 2, 3, 4, 5, 6, 7, 8, 9, 10, 11, 12, 13, 14, 15, 16, 17, 18, 19, 20, 21, 22, 23, 24, 25, 26, 27, 28, 29, 30, 31, 32] (by kernel_rfl) rfl rfl (by kernel_rfl) [(1, true), (5, true), (9, true), (20, true), (25, true)] (by kernel_rfl) (by intro j b hj v W hp; simp only [List.mem_cons, List.not_mem_nil, or_false, Prod.mk.injEq] at hj; rcases hj with ⟨rfl, rfl⟩ | ⟨rfl, rfl⟩ | ⟨rfl, rfl⟩ | ⟨rfl, rfl⟩ | ⟨rfl, rfl⟩ <;> exact hp) phGa_stays (.cons ?_ (.cons ?_ (.cons ?_ (.cons ?_ (.cons ?_ (.cons ?_ (.cons ?_ (.cons ?_ (.cons ?_ (.cons ?_ (.cons ?_ (.cons ?_ (.cons ?_ (.cons ?_ (.cons ?_ (.cons ?_ (.cons ?_ (.cons ?_ (.cons ?_ (.cons ?_ (.cons ?_ (.cons ?_ (.cons ?_ (.cons ?_ (.cons ?_ (.cons ?_ (.cons ?_ (.cons ?_ (.cons ?_ (.cons ?_ (.cons ?_ (.cons ?_ (.cons ?_ (.nil)))))))))))))))))))))))))))))))))) ?_
  · refine mono.duty_of rfl ?_
    intro f W hR hO hD K hK
    have eL : mono.lit 49 f [] = ⟨#[f 0, f 1, f 2, f 3, f 4, f 5, f 6, f 7, f 8, f 9, f 10, f 11, f 12, f 13, f 14, f 15, f 16, f 17, f 18, f 19, f 20, f 21, f 22, f 23, f 24, f 25, f 26, f 27, f 28, f 29, f 30, f 31, f 32, f 33, f 34, f 35, f 36, f 37, f 38, f 39, f 40, f 41, f 42, f 43, f 44, f 45, f 46, f 47, f 48], []⟩ := rfl
    replace hK : ∀ v W', Below W.heap.size W W' → phGa w.heap.size p3 nc nb d cs Kp bs us a1 a2 a3 aD aB aU aE aF aG ka1 ka2 ka3 kaD kaB kaU kaE kaF kaG 0 v W' → K ((mono.lit 49 f []).put (some 17) v) W' := hK
    rw [eL] at hK ⊢
    simp only [Act.put, List.setIfInBounds_toArray, List.set_cons_succ, List.set_cons_zero] at hK
    have cX := live21_any W
    go_simp
    refine cX.mono ?_
    rintro e w9 ⟨rfl, hb⟩
    exact hK _ _ hb rfl
  · refine mono.duty_of rfl ?_
    intro f W hR hO hD K hK
    have eL : mono.lit 49 f [] = ⟨#[f 0, f 1, f 2, f 3, f 4, f 5, f 6, f 7, f 8, f 9, f 10, f 11, f 12, f 13, f 14, f 15, f 16, f 17, f 18, f 19, f 20, f 21, f 22, f 23, f 24, f 25, f 26, f 27, f 28, f 29, f 30, f 31, f 32, f 33, f 34, f 35, f 36, f 37, f 38, f 39, f 40, f 41, f 42, f 43, f 44, f 45, f 46, f 47, f 48], []⟩ := rfl
    replace hK : ∀ v W', Below W.heap.size W W' → phGa w.heap.size p3 nc nb d cs Kp bs us a1 a2 a3 aD aB aU aE aF aG ka1 ka2 ka3 kaD kaB kaU kaE kaF kaG 1 v W' → K ((mono.lit 49 f []).put (some 18) v) W' := hK
    rw [eL] at hK ⊢
    simp only [Act.put, List.setIfInBounds_toArray, List.set_cons_succ, List.set_cons_zero] at hK
    have q0 := hD 0 17 (by kernel_rfl) (by kernel_rfl)
    replace q0 : f 17 = (.bool true) := q0
    rw [q0] at hK ⊢
    go_simp
    exact hK _ _ (Below.refl _ _) rfl
  · refine mono.duty_of rfl ?_
    intro f W hR hO hD K hK
    have eL : mono.lit 49 f [] = ⟨#[f 0, f 1, f 2, f 3, f 4, f 5, f 6, f 7, f 8, f 9, f 10, f 11, f 12, f 13, f 14, f 15, f 16, f 17, f 18, f 19, f 20, f 21, f 22, f 23, f 24, f 25, f 26, f 27, f 28, f 29, f 30, f 31, f 32, f 33, f 34, f 35, f 36, f 37, f 38, f 39, f 40, f 41, f 42, f 43, f 44, f 45, f 46, f 47, f 48], []⟩ := rfl
    replace hK : ∀ v W', Below W.heap.size W W' → phGa w.heap.size p3 nc nb d cs Kp bs us a1 a2 a3 aD aB aU aE aF aG ka1 ka2 ka3 kaD kaB kaU kaE kaF kaG 2 v W' → K ((mono.lit 49 f []).put (some 19) v) W' := hK
    rw [eL] at hK ⊢
    simp only [Act.put, List.setIfInBounds_toArray, List.set_cons_succ, List.set_cons_zero] at hK
    have o4 : f 4 = (.int .i64 d) := hO 4 (by kernel_rfl)
    rw [o4] at hK ⊢
    go_simp
    exact hK _ _ (Below.refl _ _) rfl
  · refine mono.duty_of rfl ?_
    intro f W hR hO hD K hK
    have eL : mono.lit 49 f [] = ⟨#[f 0, f 1, f 2, f 3, f 4, f 5, f 6, f 7, f 8, f 9, f 10, f 11, f 12, f 13, f 14, f 15, f 16, f 17, f 18, f 19, f 20, f 21, f 22, f 23, f 24, f 25, f 26, f 27, f 28, f 29, f 30, f 31, f 32, f 33, f 34, f 35, f 36, f 37, f 38, f 39, f 40, f 41, f 42, f 43, f 44, f 45, f 46, f 47, f 48], []⟩ := rfl
    replace hK : ∀ v W', Below W.heap.size W W' → phGa w.heap.size p3 nc nb d cs Kp bs us a1 a2 a3 aD aB aU aE aF aG ka1 ka2 ka3 kaD kaB kaU kaE kaF kaG 3 v W' → K ((mono.lit 49 f []).put (some 20) v) W' := hK
    rw [eL] at hK ⊢
    simp only [Act.put, List.setIfInBounds_toArray, List.set_cons_succ, List.set_cons_zero] at hK
    have q2 := hD 2 19 (by kernel_rfl) (by kernel_rfl)
    replace q2 : f 19 = (.int .i64 d) := q2
    rw [q2] at hK ⊢
    go_simp
    exact hK _ _ (Below.refl _ _) rfl
  · refine mono.duty_of rfl ?_
    intro f W hR hO hD K hK
    have eL : mono.lit 49 f [] = ⟨#[f 0, f 1, f 2, f 3, f 4, f 5, f 6, f 7, f 8, f 9, f 10, f 11, f 12, f 13, f 14, f 15, f 16, f 17, f 18, f 19, f 20, f 21, f 22, f 23, f 24, f 25, f 26, f 27, f 28, f 29, f 30, f 31, f 32, f 33, f 34, f 35, f 36, f 37, f 38, f 39, f 40, f 41, f 42, f 43, f 44, f 45, f 46, f 47, f 48], []⟩ := rfl
    replace hK : ∀ v W', Below W.heap.size W W' → phGa w.heap.size p3 nc nb d cs Kp bs us a1 a2 a3 aD aB aU aE aF aG ka1 ka2 ka3 kaD kaB kaU kaE kaF kaG 4 v W' → K ((mono.lit 49 f []).put (some 21) v) W' := hK
    rw [eL] at hK ⊢
    simp only [Act.put, List.setIfInBounds_toArray, List.set_cons_succ, List.set_cons_zero] at hK
    have q1 := hD 1 18 (by kernel_rfl) (by kernel_rfl)
    replace q1 : f 18 = (.bool true) := q1
    have q3 := hD 3 20 (by kernel_rfl) (by kernel_rfl)
    replace q3 : f 20 = (.bool true) := q3
    rw [q1, q3] at hK ⊢
    go_simp
    exact hK _ _ (Below.refl _ _) rfl
  · refine mono.duty_of rfl ?_
    intro f W hR hO hD K hK
    have eL : mono.lit 49 f [] = ⟨#[f 0, f 1, f 2, f 3, f 4, f 5, f 6, f 7, f 8, f 9, f 10, f 11, f 12, f 13, f 14, f 15, f 16, f 17, f 18, f 19, f 20, f 21, f 22, f 23, f 24, f 25, f 26, f 27, f 28, f 29, f 30, f 31, f 32, f 33, f 34, f 35, f 36, f 37, f 38, f 39, f 40, f 41, f 42, f 43, f 44, f 45, f 46, f 47, f 48], []⟩ := rfl
    replace hK : ∀ v W', Below W.heap.size W W' → phGa w.heap.size p3 nc nb d cs Kp bs us a1 a2 a3 aD aB aU aE aF aG ka1 ka2 ka3 kaD kaB kaU kaE kaF kaG 5 v W' → K ((mono.lit 49 f []).put (some 22) v) W' := hK
    rw [eL] at hK ⊢
    simp only [Act.put, List.setIfInBounds_toArray, List.set_cons_succ, List.set_cons_zero] at hK
    have q4 := hD 4 21 (by kernel_rfl) (by kernel_rfl)
    replace q4 : f 21 = (.bool true) := q4
    rw [q4] at hK ⊢
    go_simp
    exact hK _ _ (Below.refl _ _) rfl
  · refine mono.duty_of rfl ?_
    intro f W hR hO hD K hK
    have eL : mono.lit 49 f [] = ⟨#[f 0, f 1, f 2, f 3, f 4, f 5, f 6, f 7, f 8, f 9, f 10, f 11, f 12, f 13, f 14, f 15, f 16, f 17, f 18, f 19, f 20, f 21, f 22, f 23, f 24, f 25, f 26, f 27, f 28, f 29, f 30, f 31, f 32, f 33, f 34, f 35, f 36, f 37, f 38, f 39, f 40, f 41, f 42, f 43, f 44, f 45, f 46, f 47, f 48], []⟩ := rfl
    replace hK : ∀ v W', Below W.heap.size W W' → phGa w.heap.size p3 nc nb d cs Kp bs us a1 a2 a3 aD aB aU aE aF aG ka1 ka2 ka3 kaD kaB kaU kaE kaF kaG 6 v W' → K ((mono.lit 49 f []).put (some 23) v) W' := hK
    rw [eL] at hK ⊢
    simp only [Act.put, List.setIfInBounds_toArray, List.set_cons_succ, List.set_cons_zero] at hK
    have o6 : f 6 = (.int .i64 0) := hO 6 (by kernel_rfl)
    rw [o6] at hK ⊢
    go_simp
    exact hK _ _ (Below.refl _ _) rfl
  · refine mono.duty_of rfl ?_
    intro f W hR hO hD K hK
    have eL : mono.lit 49 f [] = ⟨#[f 0, f 1, f 2, f 3, f 4, f 5, f 6, f 7, f 8, f 9, f 10, f 11, f 12, f 13, f 14, f 15, f 16, f 17, f 18, f 19, f 20, f 21, f 22, f 23, f 24, f 25, f 26, f 27, f 28, f 29, f 30, f 31, f 32, f 33, f 34, f 35, f 36, f 37, f 38, f 39, f 40, f 41, f 42, f 43, f 44, f 45, f 46, f 47, f 48], []⟩ := rfl
    replace hK : ∀ v W', Below W.heap.size W W' → phGa w.heap.size p3 nc nb d cs Kp bs us a1 a2 a3 aD aB aU aE aF aG ka1 ka2 ka3 kaD kaB kaU kaE kaF kaG 7 v W' → K ((mono.lit 49 f []).put (some 24) v) W' := hK
    rw [eL] at hK ⊢
    simp only [Act.put, List.setIfInBounds_toArray, List.set_cons_succ, List.set_cons_zero] at hK
    have q6 := hD 6 23 (by kernel_rfl) (by kernel_rfl)
    replace q6 : f 23 = (.int .i64 0) := q6
    rw [q6] at hK ⊢
    go_simp
    exact hK _ _ (Below.refl _ _) rfl
  · refine mono.duty_of rfl ?_
    intro f W hR hO hD K hK
    have eL : mono.lit 49 f [] = ⟨#[f 0, f 1, f 2, f 3, f 4, f 5, f 6, f 7, f 8, f 9, f 10, f 11, f 12, f 13, f 14, f 15, f 16, f 17, f 18, f 19, f 20, f 21, f 22, f 23, f 24, f 25, f 26, f 27, f 28, f 29, f 30, f 31, f 32, f 33, f 34, f 35, f 36, f 37, f 38, f 39, f 40, f 41, f 42, f 43, f 44, f 45, f 46, f 47, f 48], []⟩ := rfl
    replace hK : ∀ v W', Below W.heap.size W W' → phGa w.heap.size p3 nc nb d cs Kp bs us a1 a2 a3 aD aB aU aE aF aG ka1 ka2 ka3 kaD kaB kaU kaE kaF kaG 8 v W' → K ((mono.lit 49 f []).put (some 25) v) W' := hK
    rw [eL] at hK ⊢
    simp only [Act.put, List.setIfInBounds_toArray, List.set_cons_succ, List.set_cons_zero] at hK
    have q5 := hD 5 22 (by kernel_rfl) (by kernel_rfl)
    replace q5 : f 22 = (.bool true) := q5
    have q7 := hD 7 24 (by kernel_rfl) (by kernel_rfl)
    replace q7 : f 24 = (.bool true) := q7
    rw [q5, q7] at hK ⊢
    go_simp
    exact hK _ _ (Below.refl _ _) rfl
  · refine mono.duty_of rfl ?_
    intro f W hR hO hD K hK
    have eL : mono.lit 49 f [] = ⟨#[f 0, f 1, f 2, f 3, f 4, f 5, f 6, f 7, f 8, f 9, f 10, f 11, f 12, f 13, f 14, f 15, f 16, f 17, f 18, f 19, f 20, f 21, f 22, f 23, f 24, f 25, f 26, f 27, f 28, f 29, f 30, f 31, f 32, f 33, f 34, f 35, f 36, f 37, f 38, f 39, f 40, f 41, f 42, f 43, f 44, f 45, f 46, f 47, f 48], []⟩ := rfl
    replace hK : ∀ v W', Below W.heap.size W W' → phGa w.heap.size p3 nc nb d cs Kp bs us a1 a2 a3 aD aB aU aE aF aG ka1 ka2 ka3 kaD kaB kaU kaE kaF kaG 9 v W' → K ((mono.lit 49 f []).put (some 26) v) W' := hK
    rw [eL] at hK ⊢
    simp only [Act.put, List.setIfInBounds_toArray, List.set_cons_succ, List.set_cons_zero] at hK
    have q8 := hD 8 25 (by kernel_rfl) (by kernel_rfl)
    replace q8 : f 25 = (.bool true) := q8
    rw [q8] at hK ⊢
    go_simp
    exact hK _ _ (Below.refl _ _) rfl
  · refine mono.duty_of rfl ?_
    intro f W hR hO hD K hK
    have eL : mono.lit 49 f [] = ⟨#[f 0, f 1, f 2, f 3, f 4, f 5, f 6, f 7, f 8, f 9, f 10, f 11, f 12, f 13, f 14, f 15, f 16, f 17, f 18, f 19, f 20, f 21, f 22, f 23, f 24, f 25, f 26, f 27, f 28, f 29, f 30, f 31, f 32, f 33, f 34, f 35, f 36, f 37, f 38, f 39, f 40, f 41, f 42, f 43, f 44, f 45, f 46, f 47, f 48], []⟩ := rfl
    replace hK : ∀ v W', Below W.heap.size W W' → phGa w.heap.size p3 nc nb d cs Kp bs us a1 a2 a3 aD aB aU aE aF aG ka1 ka2 ka3 kaD kaB kaU kaE kaF kaG 10 v W' → K ((mono.lit 49 f []).put (some 27) v) W' := hK
    rw [eL] at hK ⊢
    simp only [Act.put, List.setIfInBounds_toArray, List.set_cons_succ, List.set_cons_zero] at hK
    have o3 : f 3 = (.pointer (some ⟨p3, 0, none⟩)) := hO 3 (by kernel_rfl)
    rw [o3] at hK ⊢
    go_simp
    exact hK _ _ (Below.refl _ _) rfl
  · refine mono.duty_of rfl ?_
    intro f W hR hO hD K hK
    have eL : mono.lit 49 f [] = ⟨#[f 0, f 1, f 2, f 3, f 4, f 5, f 6, f 7, f 8, f 9, f 10, f 11, f 12, f 13, f 14, f 15, f 16, f 17, f 18, f 19, f 20, f 21, f 22, f 23, f 24, f 25, f 26, f 27, f 28, f 29, f 30, f 31, f 32, f 33, f 34, f 35, f 36, f 37, f 38, f 39, f 40, f 41, f 42, f 43, f 44, f 45, f 46, f 47, f 48], []⟩ := rfl
    replace hK : ∀ v W', Below W.heap.size W W' → phGa w.heap.size p3 nc nb d cs Kp bs us a1 a2 a3 aD aB aU aE aF aG ka1 ka2 ka3 kaD kaB kaU kaE kaF kaG 11 v W' → K ((mono.lit 49 f []).put (some 28) v) W' := hK
    rw [eL] at hK ⊢
    simp only [Act.put, List.setIfInBounds_toArray, List.set_cons_succ, List.set_cons_zero] at hK
    have q10 := hD 10 27 (by kernel_rfl) (by kernel_rfl)
    replace q10 : f 27 = (.pointer (some ⟨p3, 2, none⟩)) := q10
    rw [q10] at hK ⊢
    obtain ⟨x0, x1, x2, x3, x4⟩ := cellsSB (hS3.below hR)
    go_simp
    exact hK _ _ (Below.refl _ _) rfl
  · refine mono.duty_of rfl ?_
    intro f W hR hO hD K hK
    have eL : mono.lit 49 f [] = ⟨#[f 0, f 1, f 2, f 3, f 4, f 5, f 6, f 7, f 8, f 9, f 10, f 11, f 12, f 13, f 14, f 15, f 16, f 17, f 18, f 19, f 20, f 21, f 22, f 23, f 24, f 25, f 26, f 27, f 28, f 29, f 30, f 31, f 32, f 33, f 34, f 35, f 36, f 37, f 38, f 39, f 40, f 41, f 42, f 43, f 44, f 45, f 46, f 47, f 48], []⟩ := rfl
    replace hK : ∀ v W', Below W.heap.size W W' → phGa w.heap.size p3 nc nb d cs Kp bs us a1 a2 a3 aD aB aU aE aF aG ka1 ka2 ka3 kaD kaB kaU kaE kaF kaG 12 v W' → K ((mono.lit 49 f []).put (some 29) v) W' := hK
    rw [eL] at hK ⊢
    simp only [Act.put, List.setIfInBounds_toArray, List.set_cons_succ, List.set_cons_zero] at hK
    have q11 := hD 11 28 (by kernel_rfl) (by kernel_rfl)
    replace q11 : f 28 = (.slice aD Kp.length kaD) := q11
    rw [q11] at hK ⊢
    go_simp
    exact hK _ _ (Below.refl _ _) rfl
  · refine mono.duty_of rfl ?_
    intro f W hR hO hD K hK
    have eL : mono.lit 49 f [] = ⟨#[f 0, f 1, f 2, f 3, f 4, f 5, f 6, f 7, f 8, f 9, f 10, f 11, f 12, f 13, f 14, f 15, f 16, f 17, f 18, f 19, f 20, f 21, f 22, f 23, f 24, f 25, f 26, f 27, f 28, f 29, f 30, f 31, f 32, f 33, f 34, f 35, f 36, f 37, f 38, f 39, f 40, f 41, f 42, f 43, f 44, f 45, f 46, f 47, f 48], []⟩ := rfl
    replace hK : ∀ v W', Below W.heap.size W W' → phGa w.heap.size p3 nc nb d cs Kp bs us a1 a2 a3 aD aB aU aE aF aG ka1 ka2 ka3 kaD kaB kaU kaE kaF kaG 13 v W' → K ((mono.lit 49 f []).put (some 30) v) W' := hK
    rw [eL] at hK ⊢
    simp only [Act.put, List.setIfInBounds_toArray, List.set_cons_succ, List.set_cons_zero] at hK
    have o4 : f 4 = (.int .i64 d) := hO 4 (by kernel_rfl)
    rw [o4] at hK ⊢
    go_simp
    exact hK _ _ (Below.refl _ _) rfl
  · refine mono.duty_of rfl ?_
    intro f W hR hO hD K hK
    have eL : mono.lit 49 f [] = ⟨#[f 0, f 1, f 2, f 3, f 4, f 5, f 6, f 7, f 8, f 9, f 10, f 11, f 12, f 13, f 14, f 15, f 16, f 17, f 18, f 19, f 20, f 21, f 22, f 23, f 24, f 25, f 26, f 27, f 28, f 29, f 30, f 31, f 32, f 33, f 34, f 35, f 36, f 37, f 38, f 39, f 40, f 41, f 42, f 43, f 44, f 45, f 46, f 47, f 48], []⟩ := rfl
    replace hK : ∀ v W', Below W.heap.size W W' → phGa w.heap.size p3 nc nb d cs Kp bs us a1 a2 a3 aD aB aU aE aF aG ka1 ka2 ka3 kaD kaB kaU kaE kaF kaG 14 v W' → K ((mono.lit 49 f []).put (some 31) v) W' := hK
    rw [eL] at hK ⊢
    simp only [Act.put, List.setIfInBounds_toArray, List.set_cons_succ, List.set_cons_zero] at hK
    have q12 := hD 12 29 (by kernel_rfl) (by kernel_rfl)
    replace q12 : f 29 = (.int .i64 (Kp.length : Int)) := q12
    have q13 := hD 13 30 (by kernel_rfl) (by kernel_rfl)
    replace q13 : f 30 = (.int .i64 d) := q13
    rw [q12, q13] at hK ⊢
    go_simp
    exact hK _ _ (Below.refl _ _) rfl
  · refine mono.duty_of rfl ?_
    intro f W hR hO hD K hK
    have eL : mono.lit 49 f [] = ⟨#[f 0, f 1, f 2, f 3, f 4, f 5, f 6, f 7, f 8, f 9, f 10, f 11, f 12, f 13, f 14, f 15, f 16, f 17, f 18, f 19, f 20, f 21, f 22, f 23, f 24, f 25, f 26, f 27, f 28, f 29, f 30, f 31, f 32, f 33, f 34, f 35, f 36, f 37, f 38, f 39, f 40, f 41, f 42, f 43, f 44, f 45, f 46, f 47, f 48], []⟩ := rfl
    replace hK : ∀ v W', Below W.heap.size W W' → phGa w.heap.size p3 nc nb d cs Kp bs us a1 a2 a3 aD aB aU aE aF aG ka1 ka2 ka3 kaD kaB kaU kaE kaF kaG 15 v W' → K ((mono.lit 49 f []).put (some 32) v) W' := hK
    rw [eL] at hK ⊢
    simp only [Act.put, List.setIfInBounds_toArray, List.set_cons_succ, List.set_cons_zero] at hK
    have o1 : f 1 = (.pointer (some ⟨w.heap.size, 0, none⟩)) := hO 1 (by kernel_rfl)
    rw [o1] at hK ⊢
    go_simp
    exact hK _ _ (Below.refl _ _) rfl
  · refine mono.duty_of rfl ?_
    intro f W hR hO hD K hK
    have eL : mono.lit 49 f [] = ⟨#[f 0, f 1, f 2, f 3, f 4, f 5, f 6, f 7, f 8, f 9, f 10, f 11, f 12, f 13, f 14, f 15, f 16, f 17, f 18, f 19, f 20, f 21, f 22, f 23, f 24, f 25, f 26, f 27, f 28, f 29, f 30, f 31, f 32, f 33, f 34, f 35, f 36, f 37, f 38, f 39, f 40, f 41, f 42, f 43, f 44, f 45, f 46, f 47, f 48], []⟩ := rfl
    replace hK : ∀ v W', Below W.heap.size W W' → phGa w.heap.size p3 nc nb d cs Kp bs us a1 a2 a3 aD aB aU aE aF aG ka1 ka2 ka3 kaD kaB kaU kaE kaF kaG 16 v W' → K ((mono.lit 49 f []).put (some 33) v) W' := hK
    rw [eL] at hK ⊢
    simp only [Act.put, List.setIfInBounds_toArray, List.set_cons_succ, List.set_cons_zero] at hK
    have q15 := hD 15 32 (by kernel_rfl) (by kernel_rfl)
    replace q15 : f 32 = (.pointer (some ⟨w.heap.size, 2, none⟩)) := q15
    rw [q15] at hK ⊢
    obtain ⟨x0, x1, x2, x3, x4⟩ := cellsSB (hS1.below hR)
    go_simp
    exact hK _ _ (Below.refl _ _) rfl
  · refine mono.duty_of rfl ?_
    intro f W hR hO hD K hK
    have eL : mono.lit 49 f [] = ⟨#[f 0, f 1, f 2, f 3, f 4, f 5, f 6, f 7, f 8, f 9, f 10, f 11, f 12, f 13, f 14, f 15, f 16, f 17, f 18, f 19, f 20, f 21, f 22, f 23, f 24, f 25, f 26, f 27, f 28, f 29, f 30, f 31, f 32, f 33, f 34, f 35, f 36, f 37, f 38, f 39, f 40, f 41, f 42, f 43, f 44, f 45, f 46, f 47, f 48], []⟩ := rfl
    replace hK : ∀ v W', Below W.heap.size W W' → phGa w.heap.size p3 nc nb d cs Kp bs us a1 a2 a3 aD aB aU aE aF aG ka1 ka2 ka3 kaD kaB kaU kaE kaF kaG 17 v W' → K ((mono.lit 49 f []).put (some 34) v) W' := hK
    rw [eL] at hK ⊢
    simp only [Act.put, List.setIfInBounds_toArray, List.set_cons_succ, List.set_cons_zero] at hK
    have q16 := hD 16 33 (by kernel_rfl) (by kernel_rfl)
    replace q16 : f 33 = (.slice a1 cs.length ka1) := q16
    rw [q16] at hK ⊢
    go_simp
    exact hK _ _ (Below.refl _ _) rfl
  · refine mono.duty_of rfl ?_
    intro f W hR hO hD K hK
    have eL : mono.lit 49 f [] = ⟨#[f 0, f 1, f 2, f 3, f 4, f 5, f 6, f 7, f 8, f 9, f 10, f 11, f 12, f 13, f 14, f 15, f 16, f 17, f 18, f 19, f 20, f 21, f 22, f 23, f 24, f 25, f 26, f 27, f 28, f 29, f 30, f 31, f 32, f 33, f 34, f 35, f 36, f 37, f 38, f 39, f 40, f 41, f 42, f 43, f 44, f 45, f 46, f 47, f 48], []⟩ := rfl
    replace hK : ∀ v W', Below W.heap.size W W' → phGa w.heap.size p3 nc nb d cs Kp bs us a1 a2 a3 aD aB aU aE aF aG ka1 ka2 ka3 kaD kaB kaU kaE kaF kaG 18 v W' → K ((mono.lit 49 f []).put (some 35) v) W' := hK
    rw [eL] at hK ⊢
    simp only [Act.put, List.setIfInBounds_toArray, List.set_cons_succ, List.set_cons_zero] at hK
    have q14 := hD 14 31 (by kernel_rfl) (by kernel_rfl)
    replace q14 : f 31 = (.int .i64 (cs.length : Int)) := q14
    have q17 := hD 17 34 (by kernel_rfl) (by kernel_rfl)
    replace q17 : f 34 = (.int .i64 (cs.length : Int)) := q17
    rw [q14, q17] at hK ⊢
    go_simp
    exact hK _ _ (Below.refl _ _) rfl
  · refine mono.duty_of rfl ?_
    intro f W hR hO hD K hK
    have eL : mono.lit 49 f [] = ⟨#[f 0, f 1, f 2, f 3, f 4, f 5, f 6, f 7, f 8, f 9, f 10, f 11, f 12, f 13, f 14, f 15, f 16, f 17, f 18, f 19, f 20, f 21, f 22, f 23, f 24, f 25, f 26, f 27, f 28, f 29, f 30, f 31, f 32, f 33, f 34, f 35, f 36, f 37, f 38, f 39, f 40, f 41, f 42, f 43, f 44, f 45, f 46, f 47, f 48], []⟩ := rfl
    replace hK : ∀ v W', Below W.heap.size W W' → phGa w.heap.size p3 nc nb d cs Kp bs us a1 a2 a3 aD aB aU aE aF aG ka1 ka2 ka3 kaD kaB kaU kaE kaF kaG 19 v W' → K ((mono.lit 49 f []).put (some 36) v) W' := hK
    rw [eL] at hK ⊢
    simp only [Act.put, List.setIfInBounds_toArray, List.set_cons_succ, List.set_cons_zero] at hK
    have q9 := hD 9 26 (by kernel_rfl) (by kernel_rfl)
    replace q9 : f 26 = (.bool true) := q9
    have q18 := hD 18 35 (by kernel_rfl) (by kernel_rfl)
    replace q18 : f 35 = (.bool true) := q18
    rw [q9, q18] at hK ⊢
    go_simp
    exact hK _ _ (Below.refl _ _) rfl
  · refine mono.duty_of rfl ?_
    intro f W hR hO hD K hK
    have eL : mono.lit 49 f [] = ⟨#[f 0, f 1, f 2, f 3, f 4, f 5, f 6, f 7, f 8, f 9, f 10, f 11, f 12, f 13, f 14, f 15, f 16, f 17, f 18, f 19, f 20, f 21, f 22, f 23, f 24, f 25, f 26, f 27, f 28, f 29, f 30, f 31, f 32, f 33, f 34, f 35, f 36, f 37, f 38, f 39, f 40, f 41, f 42, f 43, f 44, f 45, f 46, f 47, f 48], []⟩ := rfl
    replace hK : ∀ v W', Below W.heap.size W W' → phGa w.heap.size p3 nc nb d cs Kp bs us a1 a2 a3 aD aB aU aE aF aG ka1 ka2 ka3 kaD kaB kaU kaE kaF kaG 20 v W' → K ((mono.lit 49 f []).put (some 37) v) W' := hK
    rw [eL] at hK ⊢
    simp only [Act.put, List.setIfInBounds_toArray, List.set_cons_succ, List.set_cons_zero] at hK
    have q19 := hD 19 36 (by kernel_rfl) (by kernel_rfl)
    replace q19 : f 36 = (.bool true) := q19
    rw [q19] at hK ⊢
    go_simp
    exact hK _ _ (Below.refl _ _) rfl
  · refine mono.duty_of rfl ?_
    intro f W hR hO hD K hK
    have eL : mono.lit 49 f [] = ⟨#[f 0, f 1, f 2, f 3, f 4, f 5, f 6, f 7, f 8, f 9, f 10, f 11, f 12, f 13, f 14, f 15, f 16, f 17, f 18, f 19, f 20, f 21, f 22, f 23, f 24, f 25, f 26, f 27, f 28, f 29, f 30, f 31, f 32, f 33, f 34, f 35, f 36, f 37, f 38, f 39, f 40, f 41, f 42, f 43, f 44, f 45, f 46, f 47, f 48], []⟩ := rfl
    replace hK : ∀ v W', Below W.heap.size W W' → phGa w.heap.size p3 nc nb d cs Kp bs us a1 a2 a3 aD aB aU aE aF aG ka1 ka2 ka3 kaD kaB kaU kaE kaF kaG 21 v W' → K ((mono.lit 49 f []).put (some 38) v) W' := hK
    rw [eL] at hK ⊢
    simp only [Act.put, List.setIfInBounds_toArray, List.set_cons_succ, List.set_cons_zero] at hK
    have o3 : f 3 = (.pointer (some ⟨p3, 0, none⟩)) := hO 3 (by kernel_rfl)
    rw [o3] at hK ⊢
    obtain ⟨x0, x1, x2, x3, x4⟩ := cellsSB (hS3.below hR)
    go_simp
    exact hK _ _ (Below.refl _ _) rfl
  · refine mono.duty_of rfl ?_
    intro f W hR hO hD K hK
    have eL : mono.lit 49 f [] = ⟨#[f 0, f 1, f 2, f 3, f 4, f 5, f 6, f 7, f 8, f 9, f 10, f 11, f 12, f 13, f 14, f 15, f 16, f 17, f 18, f 19, f 20, f 21, f 22, f 23, f 24, f 25, f 26, f 27, f 28, f 29, f 30, f 31, f 32, f 33, f 34, f 35, f 36, f 37, f 38, f 39, f 40, f 41, f 42, f 43, f 44, f 45, f 46, f 47, f 48], []⟩ := rfl
    replace hK : ∀ v W', Below W.heap.size W W' → phGa w.heap.size p3 nc nb d cs Kp bs us a1 a2 a3 aD aB aU aE aF aG ka1 ka2 ka3 kaD kaB kaU kaE kaF kaG 22 v W' → K ((mono.lit 49 f []).put (some 39) v) W' := hK
    rw [eL] at hK ⊢
    simp only [Act.put, List.setIfInBounds_toArray, List.set_cons_succ, List.set_cons_zero] at hK
    have o5 : f 5 = (.pointer (some ⟨p5, 0, none⟩)) := hO 5 (by kernel_rfl)
    rw [o5] at hK ⊢
    obtain ⟨x0, x1, x2, x3, x4⟩ := cellsSB (hS5.below hR)
    go_simp
    exact hK _ _ (Below.refl _ _) rfl
  · refine mono.duty_of rfl ?_
    intro f W hR hO hD K hK
    have eL : mono.lit 49 f [] = ⟨#[f 0, f 1, f 2, f 3, f 4, f 5, f 6, f 7, f 8, f 9, f 10, f 11, f 12, f 13, f 14, f 15, f 16, f 17, f 18, f 19, f 20, f 21, f 22, f 23, f 24, f 25, f 26, f 27, f 28, f 29, f 30, f 31, f 32, f 33, f 34, f 35, f 36, f 37, f 38, f 39, f 40, f 41, f 42, f 43, f 44, f 45, f 46, f 47, f 48], []⟩ := rfl
    replace hK : ∀ v W', Below W.heap.size W W' → phGa w.heap.size p3 nc nb d cs Kp bs us a1 a2 a3 aD aB aU aE aF aG ka1 ka2 ka3 kaD kaB kaU kaE kaF kaG 23 v W' → K ((mono.lit 49 f []).put (some 40) v) W' := hK
    rw [eL] at hK ⊢
    simp only [Act.put, List.setIfInBounds_toArray, List.set_cons_succ, List.set_cons_zero] at hK
    have q21 := hD 21 38 (by kernel_rfl) (by kernel_rfl)
    replace q21 : f 38 = (.agg #[.int .i64 nc, .int .i64 nb, .slice aD Kp.length kaD, .slice aB bs.length kaB, .slice aU us.length kaU]) := q21
    have q22 := hD 22 39 (by kernel_rfl) (by kernel_rfl)
    replace q22 : f 39 = (.agg #[.int .i64 nc, .int .i64 nb, .slice aE Kp.length kaE, .slice aF bs.length kaF, .slice aG us.length kaG]) := q22
    rw [q21, q22] at hK ⊢
    have cX := cSame W hR
    go_simp
    refine cX.mono ?_
    rintro e w9 ⟨rfl, hb⟩
    exact hK _ _ hb rfl
  · refine mono.duty_of rfl ?_
    intro f W hR hO hD K hK
    have eL : mono.lit 49 f [] = ⟨#[f 0, f 1, f 2, f 3, f 4, f 5, f 6, f 7, f 8, f 9, f 10, f 11, f 12, f 13, f 14, f 15, f 16, f 17, f 18, f 19, f 20, f 21, f 22, f 23, f 24, f 25, f 26, f 27, f 28, f 29, f 30, f 31, f 32, f 33, f 34, f 35, f 36, f 37, f 38, f 39, f 40, f 41, f 42, f 43, f 44, f 45, f 46, f 47, f 48], []⟩ := rfl
    replace hK : ∀ v W', Below W.heap.size W W' → phGa w.heap.size p3 nc nb d cs Kp bs us a1 a2 a3 aD aB aU aE aF aG ka1 ka2 ka3 kaD kaB kaU kaE kaF kaG 24 v W' → K ((mono.lit 49 f []).put (some 41) v) W' := hK
    rw [eL] at hK ⊢
    simp only [Act.put, List.setIfInBounds_toArray, List.set_cons_succ, List.set_cons_zero] at hK
    have q20 := hD 20 37 (by kernel_rfl) (by kernel_rfl)
    replace q20 : f 37 = (.bool true) := q20
    have q23 := hD 23 40 (by kernel_rfl) (by kernel_rfl)
    replace q23 : f 40 = (.bool true) := q23
    rw [q20, q23] at hK ⊢
    go_simp
    exact hK _ _ (Below.refl _ _) rfl
  · refine mono.duty_of rfl ?_
    intro f W hR hO hD K hK
    have eL : mono.lit 49 f [] = ⟨#[f 0, f 1, f 2, f 3, f 4, f 5, f 6, f 7, f 8, f 9, f 10, f 11, f 12, f 13, f 14, f 15, f 16, f 17, f 18, f 19, f 20, f 21, f 22, f 23, f 24, f 25, f 26, f 27, f 28, f 29, f 30, f 31, f 32, f 33, f 34, f 35, f 36, f 37, f 38, f 39, f 40, f 41, f 42, f 43, f 44, f 45, f 46, f 47, f 48], []⟩ := rfl
    replace hK : ∀ v W', Below W.heap.size W W' → phGa w.heap.size p3 nc nb d cs Kp bs us a1 a2 a3 aD aB aU aE aF aG ka1 ka2 ka3 kaD kaB kaU kaE kaF kaG 25 v W' → K ((mono.lit 49 f []).put (some 42) v) W' := hK
    rw [eL] at hK ⊢
    simp only [Act.put, List.setIfInBounds_toArray, List.set_cons_succ, List.set_cons_zero] at hK
    have q24 := hD 24 41 (by kernel_rfl) (by kernel_rfl)
    replace q24 : f 41 = (.bool true) := q24
    rw [q24] at hK ⊢
    go_simp
    exact hK _ _ (Below.refl _ _) rfl
  · refine mono.duty_of rfl ?_
    intro f W hR hO hD K hK
    have eL : mono.lit 49 f [] = ⟨#[f 0, f 1, f 2, f 3, f 4, f 5, f 6, f 7, f 8, f 9, f 10, f 11, f 12, f 13, f 14, f 15, f 16, f 17, f 18, f 19, f 20, f 21, f 22, f 23, f 24, f 25, f 26, f 27, f 28, f 29, f 30, f 31, f 32, f 33, f 34, f 35, f 36, f 37, f 38, f 39, f 40, f 41, f 42, f 43, f 44, f 45, f 46, f 47, f 48], []⟩ := rfl
    replace hK : ∀ v W', Below W.heap.size W W' → phGa w.heap.size p3 nc nb d cs Kp bs us a1 a2 a3 aD aB aU aE aF aG ka1 ka2 ka3 kaD kaB kaU kaE kaF kaG 26 v W' → K ((mono.lit 49 f []).put (some 43) v) W' := hK
    rw [eL] at hK ⊢
    simp only [Act.put, List.setIfInBounds_toArray, List.set_cons_succ, List.set_cons_zero] at hK
    have o3 : f 3 = (.pointer (some ⟨p3, 0, none⟩)) := hO 3 (by kernel_rfl)
    rw [o3] at hK ⊢
    obtain ⟨x0, x1, x2, x3, x4⟩ := cellsSB (hS3.below hR)
    go_simp
    exact hK _ _ (Below.refl _ _) rfl
  · refine mono.duty_of rfl ?_
    intro f W hR hO hD K hK
    have eL : mono.lit 49 f [] = ⟨#[f 0, f 1, f 2, f 3, f 4, f 5, f 6, f 7, f 8, f 9, f 10, f 11, f 12, f 13, f 14, f 15, f 16, f 17, f 18, f 19, f 20, f 21, f 22, f 23, f 24, f 25, f 26, f 27, f 28, f 29, f 30, f 31, f 32, f 33, f 34, f 35, f 36, f 37, f 38, f 39, f 40, f 41, f 42, f 43, f 44, f 45, f 46, f 47, f 48], []⟩ := rfl
    replace hK : ∀ v W', Below W.heap.size W W' → phGa w.heap.size p3 nc nb d cs Kp bs us a1 a2 a3 aD aB aU aE aF aG ka1 ka2 ka3 kaD kaB kaU kaE kaF kaG 27 v W' → K ((mono.lit 49 f []).put (some 44) v) W' := hK
    rw [eL] at hK ⊢
    simp only [Act.put, List.setIfInBounds_toArray, List.set_cons_succ, List.set_cons_zero] at hK
    have q26 := hD 26 43 (by kernel_rfl) (by kernel_rfl)
    replace q26 : f 43 = (.agg #[.int .i64 nc, .int .i64 nb, .slice aD Kp.length kaD, .slice aB bs.length kaB, .slice aU us.length kaU]) := q26
    rw [q26] at hK ⊢
    have cX := cN3 W hR
    go_simp
    refine cX.mono ?_
    rintro e w9 ⟨u9, L9, rfl, ho, hs, hb⟩
    obtain ⟨a9, k9, rfl⟩ := own_form ho
    exact hK _ _ hb ⟨a9, k9, L9, rfl, rdi_own ho, hs⟩
  · refine mono.duty_of rfl ?_
    intro f W hR hO hD K hK
    have eL : mono.lit 49 f [] = ⟨#[f 0, f 1, f 2, f 3, f 4, f 5, f 6, f 7, f 8, f 9, f 10, f 11, f 12, f 13, f 14, f 15, f 16, f 17, f 18, f 19, f 20, f 21, f 22, f 23, f 24, f 25, f 26, f 27, f 28, f 29, f 30, f 31, f 32, f 33, f 34, f 35, f 36, f 37, f 38, f 39, f 40, f 41, f 42, f 43, f 44, f 45, f 46, f 47, f 48], []⟩ := rfl
    replace hK : ∀ v W', Below W.heap.size W W' → phGa w.heap.size p3 nc nb d cs Kp bs us a1 a2 a3 aD aB aU aE aF aG ka1 ka2 ka3 kaD kaB kaU kaE kaF kaG 28 v W' → K ((mono.lit 49 f []).put (some 45) v) W' := hK
    rw [eL] at hK ⊢
    simp only [Act.put, List.setIfInBounds_toArray, List.set_cons_succ, List.set_cons_zero] at hK
    have o1 : f 1 = (.pointer (some ⟨w.heap.size, 0, none⟩)) := hO 1 (by kernel_rfl)
    rw [o1] at hK ⊢
    obtain ⟨x0, x1, x2, x3, x4⟩ := cellsSB (hS1.below hR)
    go_simp
    exact hK _ _ (Below.refl _ _) rfl
  · refine mono.duty_of rfl ?_
    intro f W hR hO hD K hK
    have eL : mono.lit 49 f [] = ⟨#[f 0, f 1, f 2, f 3, f 4, f 5, f 6, f 7, f 8, f 9, f 10, f 11, f 12, f 13, f 14, f 15, f 16, f 17, f 18, f 19, f 20, f 21, f 22, f 23, f 24, f 25, f 26, f 27, f 28, f 29, f 30, f 31, f 32, f 33, f 34, f 35, f 36, f 37, f 38, f 39, f 40, f 41, f 42, f 43, f 44, f 45, f 46, f 47, f 48], []⟩ := rfl
    replace hK : ∀ v W', Below W.heap.size W W' → phGa w.heap.size p3 nc nb d cs Kp bs us a1 a2 a3 aD aB aU aE aF aG ka1 ka2 ka3 kaD kaB kaU kaE kaF kaG 29 v W' → K ((mono.lit 49 f []).put (some 46) v) W' := hK
    rw [eL] at hK ⊢
    simp only [Act.put, List.setIfInBounds_toArray, List.set_cons_succ, List.set_cons_zero] at hK
    have q28 := hD 28 45 (by kernel_rfl) (by kernel_rfl)
    replace q28 : f 45 = (.agg #[.int .i64 nc, .int .i64 nb, .slice a1 cs.length ka1, .slice a2 bs.length ka2, .slice a3 us.length ka3]) := q28
    rw [q28] at hK ⊢
    have cX := cN1 W hR
    go_simp
    refine cX.mono ?_
    rintro e w9 ⟨u9, L9, rfl, ho, hs, hb⟩
    obtain ⟨a9, k9, rfl⟩ := own_form ho
    exact hK _ _ hb ⟨a9, k9, L9, rfl, rdi_own ho, hs⟩
  · refine mono.duty_of rfl ?_
    intro f W hR hO hD K hK
    have eL : mono.lit 49 f [] = ⟨#[f 0, f 1, f 2, f 3, f 4, f 5, f 6, f 7, f 8, f 9, f 10, f 11, f 12, f 13, f 14, f 15, f 16, f 17, f 18, f 19, f 20, f 21, f 22, f 23, f 24, f 25, f 26, f 27, f 28, f 29, f 30, f 31, f 32, f 33, f 34, f 35, f 36, f 37, f 38, f 39, f 40, f 41, f 42, f 43, f 44, f 45, f 46, f 47, f 48], []⟩ := rfl
    replace hK : ∀ v W', Below W.heap.size W W' → phGa w.heap.size p3 nc nb d cs Kp bs us a1 a2 a3 aD aB aU aE aF aG ka1 ka2 ka3 kaD kaB kaU kaE kaF kaG 30 v W' → K ((mono.lit 49 f []).put (some 47) v) W' := hK
    rw [eL] at hK ⊢
    simp only [Act.put, List.setIfInBounds_toArray, List.set_cons_succ, List.set_cons_zero] at hK
    have q27 := hD 27 44 (by kernel_rfl) (by kernel_rfl)
    obtain ⟨a27, k27, L27, e27, o27, s27⟩ := q27
    have q29 := hD 29 46 (by kernel_rfl) (by kernel_rfl)
    obtain ⟨a29, k29, L29, e29, o29, s29⟩ := q29
    rw [e27, e29] at hK ⊢
    have eL9 := HS.out _ _ s27 s29
    subst eL9
    have cX := same21_true _ _ _ W o27 o29 (srt_short s29 hlc)
    go_simp
    refine cX.mono ?_
    rintro e w9 ⟨rfl, hb⟩
    exact hK _ _ hb rfl
  · refine mono.duty_of rfl ?_
    intro f W hR hO hD K hK
    have eL : mono.lit 49 f [] = ⟨#[f 0, f 1, f 2, f 3, f 4, f 5, f 6, f 7, f 8, f 9, f 10, f 11, f 12, f 13, f 14, f 15, f 16, f 17, f 18, f 19, f 20, f 21, f 22, f 23, f 24, f 25, f 26, f 27, f 28, f 29, f 30, f 31, f 32, f 33, f 34, f 35, f 36, f 37, f 38, f 39, f 40, f 41, f 42, f 43, f 44, f 45, f 46, f 47, f 48], []⟩ := rfl
    replace hK : ∀ v W', Below W.heap.size W W' → phGa w.heap.size p3 nc nb d cs Kp bs us a1 a2 a3 aD aB aU aE aF aG ka1 ka2 ka3 kaD kaB kaU kaE kaF kaG 31 v W' → K ((mono.lit 49 f []).put (some 48) v) W' := hK
    rw [eL] at hK ⊢
    simp only [Act.put, List.setIfInBounds_toArray, List.set_cons_succ, List.set_cons_zero] at hK
    have q25 := hD 25 42 (by kernel_rfl) (by kernel_rfl)
    replace q25 : f 42 = (.bool true) := q25
    have q30 := hD 30 47 (by kernel_rfl) (by kernel_rfl)
    replace q30 : f 47 = (.bool true) := q30
    rw [q25, q30] at hK ⊢
    go_simp
    exact hK _ _ (Below.refl _ _) rfl
  · refine mono.duty_of rfl ?_
    intro f W hR hO hD K hK
    have eL : mono.lit 49 f [] = ⟨#[f 0, f 1, f 2, f 3, f 4, f 5, f 6, f 7, f 8, f 9, f 10, f 11, f 12, f 13, f 14, f 15, f 16, f 17, f 18, f 19, f 20, f 21, f 22, f 23, f 24, f 25, f 26, f 27, f 28, f 29, f 30, f 31, f 32, f 33, f 34, f 35, f 36, f 37, f 38, f 39, f 40, f 41, f 42, f 43, f 44, f 45, f 46, f 47, f 48], []⟩ := rfl
    replace hK : ∀ v W', Below W.heap.size W W' → phGa w.heap.size p3 nc nb d cs Kp bs us a1 a2 a3 aD aB aU aE aF aG ka1 ka2 ka3 kaD kaB kaU kaE kaF kaG 32 v W' → K ((mono.lit 49 f []).put (some 2) v) W' := hK
    rw [eL] at hK ⊢
    simp only [Act.put, List.setIfInBounds_toArray, List.set_cons_succ, List.set_cons_zero] at hK
    have q31 := hD 31 48 (by kernel_rfl) (by kernel_rfl)
    replace q31 : f 48 = (.bool true) := q31
    rw [q31] at hK ⊢
    go_simp
    exact hK _ _ (Below.refl _ _) rfl
  · intro f W hB hO hD
    have r0 := hO 0 (by kernel_rfl)
    have r1 := hO 1 (by kernel_rfl)
    have r2 := hD 32 2 (by kernel_rfl)
    replace r2 : f 2 = (.bool true) := r2
    have r3 := hO 3 (by kernel_rfl)
    have r4 := hO 4 (by kernel_rfl)
    have r5 := hO 5 (by kernel_rfl)
    have r6 := hO 6 (by kernel_rfl)
    have r7 := hO 7 (by kernel_rfl)
    have r8 := hO 8 (by kernel_rfl)
    have r9 := hO 9 (by kernel_rfl)
    have r10 := hO 10 (by kernel_rfl)
    have r11 := hO 11 (by kernel_rfl)
    have r12 := hO 12 (by kernel_rfl)
    have r13 := hO 13 (by kernel_rfl)
    have r14 := hO 14 (by kernel_rfl)
    have r15 := hO 15 (by kernel_rfl)
    have r16 := hO 16 (by kernel_rfl)
    have eL : mono.lit 49 f [] = ⟨#[f 0, f 1, f 2, f 3, f 4, f 5, f 6, f 7, f 8, f 9, f 10, f 11, f 12, f 13, f 14, f 15, f 16, f 17, f 18, f 19, f 20, f 21, f 22, f 23, f 24, f 25, f 26, f 27, f 28, f 29, f 30, f 31, f 32, f 33, f 34, f 35, f 36, f 37, f 38, f 39, f 40, f 41, f 42, f 43, f 44, f 45, f 46, f 47, f 48], []⟩ := rfl
    rw [eL, r0, r1, r2, r3, r4, r5, r6, r7, r8, r9, r10, r11, r12, r13, r14, r15, r16]
    have hbF := hb05.trans (hB.mono hb05.size)
    clear hO hD
    go_wp2_with fail
    go_ret
    exact ⟨rfl, hbF⟩

theorem own : ownKnob Try.prog.godebug = none := by kernel_rfl
theorem laidOut : laidOutB Try.prog = true := by kernel_rfl

set_option maxRecDepth 20000 in
theorem contract (H : Type) (enc : TypeId × Value → H) (W : World) (base : Nat) (args : Array Value) (ds gs : List (DataW H)) (before : List MemPlace)
    (hval : ∀ (j : Nat) t v, Try.f4.params[j]? = some t → args[j]? = some v → Value.okWide Try.prog W .any base t v)
    (hW : DataW.Whole enc Try.prog Try.f4.params.toList Rows.gcAgainSpec.vars false W args.toList ds gs before) (hsz0 : (DataW.weightsEach Try.prog (Try.f4.params.toList ++ Rows.gcAgainSpec.plain.varTypes Try.prog) (ds ++ gs)).all (· ≤ reachBytes) = true) :
    Calls Try.prog 4 args W fun e W' => ∃ v, e = .returned v ∧ Rows.gcAgainSpec.post enc Try.prog Try.f4 false true false false W args v W' := by
  have hW' := hW
  obtain ⟨p, q, hA0, hV, rfl, hfz, hnd⟩ := hW
  have hA : DataW.TrodAll enc Try.prog W 0 (fun _ => true) true Try.f4.params.toList args.toList ds p := hA0
  rw [Try.params4] at hA hval hsz0
  obtain ⟨v0, vs0, d0, ds0, p0, q0, hargs, rfl, rfl, h0, r0⟩ := trodAll_cons hA
  obtain ⟨rfl, rfl, rfl⟩ := trodAll_nil r0
  obtain rfl : args = #[v0] := by cases args; simp_all
  obtain ⟨rfl, rfl⟩ := trodVars_none hV
  have k0 := h0
  have lt0 : ∀ x ∈ p0, x.block < W.heap.size := by obtain ⟨m, hm⟩ := k0; exact DataW.trod_lt m _ _ _ hm
  obtain ⟨fuel0, hf0⟩ := h0
  have z0 : Sz false 26 d0 := fun n hn => by simpa using List.all_eq_true.1 hsz0 n (DataW.weights_mem_each (j := 0) (t := 26) (d := d0) rfl rfl n hn)
  obtain ⟨S0, s0a, s0b, s0c, hc0, rd0, ok0⟩ := open_st od_false hf0 z0
  obtain rfl := st_val hc0
  clear hA0
  simp only [List.append_nil] at hW'
  refine (walk S0 s0a s0b s0c W rd0 ok0).mono fun e W' ⟨he, bel⟩ => ?_
  subst he
  exact ⟨_, rfl, _, _, _, [], _, [], hW', trodAll_mk1 (shut_bool Try.underlying4 _), (trodAll_cons_mk (Below.trod laidOut (by kernel_rfl) (of_decide_eq_true (by kernel_rfl)) k0 bel lt0) trodAll_mk0), rfl, bel.frame _, fun h => by cases h⟩

set_option maxRecDepth 100000 in
theorem lifted (os : Os) (started : os.Started) (H : Type) (enc : TypeId × Value → H) :
    ReturnsInHanded {} Try.checked os 4 .any (Rows.gcAgainSpec.pre6 enc Try.prog Try.f4 Rows.gcAgainRow.domain false) (Rows.gcAgainSpec.post enc Try.prog Try.f4 false true false false) := by
  refine returnsInHanded_of_change_sized (C := Try.checked) own started (by kernel_rfl) Try.func4
    (ChangeSpec.witness6 (enc := enc) (C := Try.checked) false ⟨#[], #[.agg #[.int .i64 0, .int .i64 0, .slice none 0 0, .slice none 0 0, .slice none 0 0]], []⟩ 8 (by kernel_rfl) (by kernel_rfl) (by kernel_rfl) (by kernel_rfl)) ?_
  intro W base args ds gs before hval hW _ hsz _
  exact contract H enc W base args ds gs before hval hW hsz

theorem holds : Rows.GcAgainSaid :=
  OpenClaim.holds_of_wide 4 Try.f4 rfl rfl rfl rfl rfl rfl rfl ⟨rfl, rfl, rfl, rfl, rfl⟩ rfl rfl rfl rfl rfl (by kernel_rfl) Try.func4 (by kernel_rfl)
    (of_decide_eq_true (by kernel_rfl)) (by unfold Func.isWrapper; first | (rw [if_pos (by decide +kernel)]; kernel_rfl) | (rw [if_neg (by decide +kernel)]; exact ⟨rfl, rfl⟩))
    (fun os started H enc _ => lifted os started H enc)
end Go.Proofs.Ythhdpabelcgfjaa.gcAgain
namespace Go.Proofs.Ythhdpabelcgfjaa
theorem gcAgain_holds : Rows.GcAgainSaid := gcAgain.holds
#print axioms gcAgain_holds
end Go.Proofs.Ythhdpabelcgfjaa
