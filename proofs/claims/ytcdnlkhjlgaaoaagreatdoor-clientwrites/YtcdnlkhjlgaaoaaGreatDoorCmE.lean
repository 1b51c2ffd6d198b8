/-
  The reference: Encode.
-/
import Derived.Test.YtcdnlkhjlgaaoaaGreatDoorCmB
namespace Go.Proofs.YtcdnlkhjlgaaoaaGreatDoor
open Go.ChangeShapes Go.WideShapes Go.ChangeAt Go.RowKit Go.PlainAid

theorem rnum_any (n : Int) (w : World) (h0 : 0 ≤ n) (h1 : n ≤ 1000000) : Calls Tryz.prog 16 #[.int .i64 n] w fun e w' => e = .returned (.string (mk (numB n.toNat))) ∧ Below w.heap.size w w' := by
  have c := pk.refNumW_ok n.toNat w (by omega)
  rw [Int.toNat_of_nonneg h0] at c
  go_enter Tryz.func16, Tryz.ntmps16
  go_wp2_with fail
  refine c.mono ?_
  rintro e w1 ⟨rfl, hb1⟩
  go_wp2_with fail
  go_ret
  exact ⟨rfl, hb1⟩
theorem rtxt_any (t : ByteArray) (w : World) (h1 : t.size ≤ maxLen) : Calls Tryz.prog 17 #[.string t] w fun e w' => e = .returned (.string (pk.textR t).1) ∧ Below w.heap.size w w' := by
  have c := pk.refTextW_any t w h1
  generalize pk.textR t = R at *
  go_enter Tryz.func17, Tryz.ntmps17
  go_wp2_with fail
  refine c.mono ?_
  rintro e w1 ⟨rfl, hb1⟩
  go_wp2_with fail
  go_ret
  exact ⟨rfl, hb1⟩
def phRe (E : EdD) (ao : Option Addr) (cp g : Nat) (S1 S2 S3 S4 S5 S6 : ByteArray) : Nat → Value → World → Prop
  | 0, v, _ => v = (.pointer (some ⟨g, 0, none⟩))
  | 1, v, _ => v = (.int .i64 E.c)
  | 2, v, _ => v = (.string (S1))
  | 3, v, _ => v = (.pointer (some ⟨g, 1, none⟩))
  | 4, v, _ => v = (.int .i64 E.b)
  | 5, v, _ => v = (.string (S2))
  | 6, v, _ => v = (.string (S1 ++ S2))
  | 7, v, _ => v = (.pointer (some ⟨g, 2, none⟩))
  | 8, v, _ => v = (.int .i64 E.r)
  | 9, v, _ => v = (.string (S3))
  | 10, v, _ => v = (.string (S1 ++ S2 ++ S3))
  | 11, v, _ => v = (.pointer (some ⟨g, 3, none⟩))
  | 12, v, _ => v = (.string (E.t))
  | 13, v, _ => v = (.string (S4))
  | 14, v, _ => v = (.string (S1 ++ S2 ++ S3 ++ S4))
  | 15, v, _ => v = (.pointer (some ⟨g, 4, none⟩))
  | 16, v, _ => v = (.int .i64 E.s)
  | 17, v, _ => v = (.string (S5))
  | 18, v, _ => v = (.string (S1 ++ S2 ++ S3 ++ S4 ++ S5))
  | 19, v, _ => v = (.pointer (some ⟨g, 5, none⟩))
  | 20, v, _ => v = (.slice ao E.p.length cp)
  | 21, v, _ => v = (.int .i64 (E.p.length : Int))
  | 22, v, _ => v = (.string (S6))
  | 23, v, _ => v = (.string (S1 ++ S2 ++ S3 ++ S4 ++ S5 ++ S6))
  | 24, v, _ => v = (.string (S1 ++ S2 ++ S3 ++ S4 ++ S5 ++ S6))
  | _, _, _ => True
theorem phRe_stays {E : EdD} {ao : Option Addr} {cp g : Nat} {S1 S2 S3 S4 S5 S6 : ByteArray} (i : Nat) (v : Value) (w w' : World) (h : phRe E ao cp g S1 S2 S3 S4 S5 S6 i v w) (_hg : Below w.heap.size w w') : phRe E ao cp g S1 S2 S3 S4 S5 S6 i v w' := by
  unfold phRe at h ⊢
  split at h
  all_goals first
    | exact h
    | trivial
theorem mk_txs (s : ByteArray) : mk (txsB [s]) = (pk.textR s).1 := by simp [txsB, mk]
set_option maxRecDepth 20000 in
set_option maxHeartbeats 3000000 in
theorem rencode_any (E : EdD) (v : Value) (w : World) (hr : RdEd w v E.p) (hF : E.Fit) (ht : E.t.size ≤ 1048576) (hS : ∀ e ∈ E.p, ∀ o ∈ e.d, o.Sm) :
    Calls Tryz.prog 6 #[.agg (E.fs v)] w fun e w' => e = .returned (.tuple #[.string (encE E).1, .int .i64 (encE E).2]) ∧ Below w.heap.size w w' := by
  have hE := eb_new w E v
  have hA := alloc_b w (.cells (E.fs v) 24)
  have cM := rmay_any E v _ (hr.below hA) hF ht hS
  by_cases hm : mayE E = true
  · have hM := (may_iff E).1 hm
    rw [hm] at cM
    have n1 := fun W => rnum_any E.c W (by have := hM.c0; omega) (by have := hM.c1; omega)
    have n2 := fun W => rnum_any E.b W (by have := hM.b0; omega) hM.b1
    have n3 := fun W => rnum_any E.r W hM.r0 hM.r1
    have n4 := fun W => rtxt_any E.t W (by unfold maxLen; omega)
    have n5 := fun W => rnum_any E.s W hM.s0 (by have := hM.s1; omega)
    have hp8 := hM.p8
    have n6 := fun W => rnum_any (E.p.length : Int) W (by omega) (by omega)
    rw [Int.toNat_natCast] at n6
    have z1 : (mk (numB E.c.toNat)).size ≤ 100 := by rw [mk_size, ← nmB_one]; have := nmB_len [E.c.toNat]; simp at this; omega
    have z2 : (mk (numB E.b.toNat)).size ≤ 100 := by rw [mk_size, ← nmB_one]; have := nmB_len [E.b.toNat]; simp at this; omega
    have z3 : (mk (numB E.r.toNat)).size ≤ 100 := by rw [mk_size, ← nmB_one]; have := nmB_len [E.r.toNat]; simp at this; omega
    have z4 : ((pk.textR E.t).1).size ≤ 20020 := textR_len E.t
    have z5 : (mk (numB E.s.toNat)).size ≤ 100 := by rw [mk_size, ← nmB_one]; have := nmB_len [E.s.toNat]; simp at this; omega
    have z6 : (mk (numB E.p.length)).size ≤ 100 := by rw [mk_size, ← nmB_one]; have := nmB_len [E.p.length]; simp at this; omega
    have HF : Hid (mk (frmE E) = mk (numB E.c.toNat) ++ mk (numB E.b.toNat) ++ mk (numB E.r.toNat) ++ (pk.textR E.t).1 ++ mk (numB E.s.toNat) ++ mk (numB E.p.length) ++ mk (txsB (dfs E.p))) := by
      show _ = _
      rw [← mk_txs]
      simp only [← mk_appC]
      congr 1
      unfold frmE
      simp [nmB]
    have HL : Hid ((frmE E).length = (mk (frmE E)).size) := (mk_size _).symm
    have hc := hr
    obtain ⟨ao, cp, rfl, -, hc⟩ := hc
    obtain ⟨R, HR⟩ : ∃ R, Hid (R = encE E) := ⟨_, rfl⟩
    rw [← HR.out]
    have hpf := hF.pf
    generalize mk (numB E.c.toNat) = S1 at *
    generalize mk (numB E.b.toNat) = S2 at *
    generalize mk (numB E.r.toNat) = S3 at *
    generalize (pk.textR E.t).1 = S4 at *
    generalize mk (numB E.s.toNat) = S5 at *
    generalize mk (numB E.p.length) = S6 at *
    have y1 : ¬ 9223372036854775807 < S1.size + S2.size := by omega
    have y2 : ¬ 9223372036854775807 < S1.size + S2.size + S3.size := by omega
    have y3 : ¬ 9223372036854775807 < S1.size + S2.size + S3.size + S4.size := by omega
    have y4 : ¬ 9223372036854775807 < S1.size + S2.size + S3.size + S4.size + S5.size := by omega
    have y5 : ¬ 9223372036854775807 < S1.size + S2.size + S3.size + S4.size + S5.size + S6.size := by omega
    unfold EdD.fs at hA cM ⊢
    clear hM hr
    go_enter Tryz.func6, Tryz.ntmps6
    go_wp2_with fail
    refine cM.mono ?_
    rintro e w1 ⟨rfl, hb1⟩
    have hE1 : EB w1 w.heap.size E (.slice ao E.p.length cp) := hE.below hb1
    have hB1 := chain hA hb1
    have hBd : Below w.heap.size w w1.drew := hB1.drew
    clear cM hE hA hb1
    go_upto_region 3 with fail
    go_cut [4] (fun x wx => x = .string (S1 ++ S2 ++ S3 ++ S4 ++ S5 ++ S6) ∧ Below w1.heap.size w1 wx)
    case first =>
      refine mono.region_monoS (fun W W' => Below W.heap.size W W') (fun _ => Below.refl _ _) (fun _ _ _ => chain) (phRe E ao cp w.heap.size S1 S2 S3 S4 S5 S6) ((fun _ _ => True) ) 60 [] [0, 1, 2, 3, 4, 5, 6, 7, 8, 9, 10, 11, 12, 13, 14, 15, 16, 17, 18, 19, 20, 21, 22, 23, 24] (by kernel_rfl) rfl rfl (by kernel_rfl) [] (by kernel_rfl) (by simp) (phRe_stays) (trivial) (.cons ?_ (.cons ?_ (.cons ?_ (.cons ?_ (.cons ?_ (.cons ?_ (.cons ?_ (.cons ?_ (.cons ?_ (.cons ?_ (.cons ?_ (.cons ?_ (.cons ?_ (.cons ?_ (.cons ?_ (.cons ?_ (.cons ?_ (.cons ?_ (.cons ?_ (.cons ?_ (.cons ?_ (.cons ?_ (.cons ?_ (.cons ?_ (.cons ?_ (.nil)))))))))))))))))))))))))) ?_
      · refine mono.dutyS_of rfl ?_
        intro f W L hR hO hD hL hi hX K hK
        have eL : mono.lit 60 f [] = ⟨#[f 0, f 1, f 2, f 3, f 4, f 5, f 6, f 7, f 8, f 9, f 10, f 11, f 12, f 13, f 14, f 15, f 16, f 17, f 18, f 19, f 20, f 21, f 22, f 23, f 24, f 25, f 26, f 27, f 28, f 29, f 30, f 31, f 32, f 33, f 34, f 35, f 36, f 37, f 38, f 39, f 40, f 41, f 42, f 43, f 44, f 45, f 46, f 47, f 48, f 49, f 50, f 51, f 52, f 53, f 54, f 55, f 56, f 57, f 58, f 59], []⟩ := rfl
        replace hK : ∀ v W', (fun W W' => Below W.heap.size W W') W W' → phRe E ao cp w.heap.size S1 S2 S3 S4 S5 S6 0 v W' → (fun _ _ => True) (fun j => if j = 0 then true else L j) W' → K ((mono.lit 60 f []).put (some 11) v) W' := hK
        rw [eL] at hK ⊢
        simp only [Act.put, List.setIfInBounds_toArray, List.set_cons_succ, List.set_cons_zero] at hK
        have o1 : f 1 = (.pointer (some ⟨w.heap.size, 0, none⟩)) := hO 1 (by kernel_rfl)
        rw [o1] at hK ⊢
        go_simp
        exact hK _ _ (Below.refl _ _) rfl trivial
      · refine mono.dutyS_of rfl ?_
        intro f W L hR hO hD hL hi hX K hK
        have eL : mono.lit 60 f [] = ⟨#[f 0, f 1, f 2, f 3, f 4, f 5, f 6, f 7, f 8, f 9, f 10, f 11, f 12, f 13, f 14, f 15, f 16, f 17, f 18, f 19, f 20, f 21, f 22, f 23, f 24, f 25, f 26, f 27, f 28, f 29, f 30, f 31, f 32, f 33, f 34, f 35, f 36, f 37, f 38, f 39, f 40, f 41, f 42, f 43, f 44, f 45, f 46, f 47, f 48, f 49, f 50, f 51, f 52, f 53, f 54, f 55, f 56, f 57, f 58, f 59], []⟩ := rfl
        replace hK : ∀ v W', (fun W W' => Below W.heap.size W W') W W' → phRe E ao cp w.heap.size S1 S2 S3 S4 S5 S6 1 v W' → (fun _ _ => True) (fun j => if j = 1 then true else L j) W' → K ((mono.lit 60 f []).put (some 12) v) W' := hK
        rw [eL] at hK ⊢
        simp only [Act.put, List.setIfInBounds_toArray, List.set_cons_succ, List.set_cons_zero] at hK
        have q0 := hD 0 11 (by kernel_rfl) (by kernel_rfl)
        replace q0 : f 11 = (.pointer (some ⟨w.heap.size, 0, none⟩)) := q0
        rw [q0] at hK ⊢
        obtain ⟨x0, x1, x2, x3, x4, x5⟩ := cellsEB (EB.below (W := w1.drew) hE1 hR)
        go_simp
        exact hK _ _ (Below.refl _ _) rfl trivial
      · refine mono.dutyS_of rfl ?_
        intro f W L hR hO hD hL hi hX K hK
        have eL : mono.lit 60 f [] = ⟨#[f 0, f 1, f 2, f 3, f 4, f 5, f 6, f 7, f 8, f 9, f 10, f 11, f 12, f 13, f 14, f 15, f 16, f 17, f 18, f 19, f 20, f 21, f 22, f 23, f 24, f 25, f 26, f 27, f 28, f 29, f 30, f 31, f 32, f 33, f 34, f 35, f 36, f 37, f 38, f 39, f 40, f 41, f 42, f 43, f 44, f 45, f 46, f 47, f 48, f 49, f 50, f 51, f 52, f 53, f 54, f 55, f 56, f 57, f 58, f 59], []⟩ := rfl
        replace hK : ∀ v W', (fun W W' => Below W.heap.size W W') W W' → phRe E ao cp w.heap.size S1 S2 S3 S4 S5 S6 2 v W' → (fun _ _ => True) (fun j => if j = 2 then true else L j) W' → K ((mono.lit 60 f []).put (some 13) v) W' := hK
        rw [eL] at hK ⊢
        simp only [Act.put, List.setIfInBounds_toArray, List.set_cons_succ, List.set_cons_zero] at hK
        have q1 := hD 1 12 (by kernel_rfl) (by kernel_rfl)
        replace q1 : f 12 = (.int .i64 E.c) := q1
        rw [q1] at hK ⊢
        have cX := n1 W
        go_simp
        refine cX.mono ?_
        rintro e w9 ⟨rfl, hb⟩
        exact hK _ _ hb rfl trivial
      · refine mono.dutyS_of rfl ?_
        intro f W L hR hO hD hL hi hX K hK
        have eL : mono.lit 60 f [] = ⟨#[f 0, f 1, f 2, f 3, f 4, f 5, f 6, f 7, f 8, f 9, f 10, f 11, f 12, f 13, f 14, f 15, f 16, f 17, f 18, f 19, f 20, f 21, f 22, f 23, f 24, f 25, f 26, f 27, f 28, f 29, f 30, f 31, f 32, f 33, f 34, f 35, f 36, f 37, f 38, f 39, f 40, f 41, f 42, f 43, f 44, f 45, f 46, f 47, f 48, f 49, f 50, f 51, f 52, f 53, f 54, f 55, f 56, f 57, f 58, f 59], []⟩ := rfl
        replace hK : ∀ v W', (fun W W' => Below W.heap.size W W') W W' → phRe E ao cp w.heap.size S1 S2 S3 S4 S5 S6 3 v W' → (fun _ _ => True) (fun j => if j = 3 then true else L j) W' → K ((mono.lit 60 f []).put (some 14) v) W' := hK
        rw [eL] at hK ⊢
        simp only [Act.put, List.setIfInBounds_toArray, List.set_cons_succ, List.set_cons_zero] at hK
        have o1 : f 1 = (.pointer (some ⟨w.heap.size, 0, none⟩)) := hO 1 (by kernel_rfl)
        rw [o1] at hK ⊢
        go_simp
        exact hK _ _ (Below.refl _ _) rfl trivial
      · refine mono.dutyS_of rfl ?_
        intro f W L hR hO hD hL hi hX K hK
        have eL : mono.lit 60 f [] = ⟨#[f 0, f 1, f 2, f 3, f 4, f 5, f 6, f 7, f 8, f 9, f 10, f 11, f 12, f 13, f 14, f 15, f 16, f 17, f 18, f 19, f 20, f 21, f 22, f 23, f 24, f 25, f 26, f 27, f 28, f 29, f 30, f 31, f 32, f 33, f 34, f 35, f 36, f 37, f 38, f 39, f 40, f 41, f 42, f 43, f 44, f 45, f 46, f 47, f 48, f 49, f 50, f 51, f 52, f 53, f 54, f 55, f 56, f 57, f 58, f 59], []⟩ := rfl
        replace hK : ∀ v W', (fun W W' => Below W.heap.size W W') W W' → phRe E ao cp w.heap.size S1 S2 S3 S4 S5 S6 4 v W' → (fun _ _ => True) (fun j => if j = 4 then true else L j) W' → K ((mono.lit 60 f []).put (some 15) v) W' := hK
        rw [eL] at hK ⊢
        simp only [Act.put, List.setIfInBounds_toArray, List.set_cons_succ, List.set_cons_zero] at hK
        have q3 := hD 3 14 (by kernel_rfl) (by kernel_rfl)
        replace q3 : f 14 = (.pointer (some ⟨w.heap.size, 1, none⟩)) := q3
        rw [q3] at hK ⊢
        obtain ⟨x0, x1, x2, x3, x4, x5⟩ := cellsEB (EB.below (W := w1.drew) hE1 hR)
        go_simp
        exact hK _ _ (Below.refl _ _) rfl trivial
      · refine mono.dutyS_of rfl ?_
        intro f W L hR hO hD hL hi hX K hK
        have eL : mono.lit 60 f [] = ⟨#[f 0, f 1, f 2, f 3, f 4, f 5, f 6, f 7, f 8, f 9, f 10, f 11, f 12, f 13, f 14, f 15, f 16, f 17, f 18, f 19, f 20, f 21, f 22, f 23, f 24, f 25, f 26, f 27, f 28, f 29, f 30, f 31, f 32, f 33, f 34, f 35, f 36, f 37, f 38, f 39, f 40, f 41, f 42, f 43, f 44, f 45, f 46, f 47, f 48, f 49, f 50, f 51, f 52, f 53, f 54, f 55, f 56, f 57, f 58, f 59], []⟩ := rfl
        replace hK : ∀ v W', (fun W W' => Below W.heap.size W W') W W' → phRe E ao cp w.heap.size S1 S2 S3 S4 S5 S6 5 v W' → (fun _ _ => True) (fun j => if j = 5 then true else L j) W' → K ((mono.lit 60 f []).put (some 16) v) W' := hK
        rw [eL] at hK ⊢
        simp only [Act.put, List.setIfInBounds_toArray, List.set_cons_succ, List.set_cons_zero] at hK
        have q4 := hD 4 15 (by kernel_rfl) (by kernel_rfl)
        replace q4 : f 15 = (.int .i64 E.b) := q4
        rw [q4] at hK ⊢
        have cX := n2 W
        go_simp
        refine cX.mono ?_
        rintro e w9 ⟨rfl, hb⟩
        exact hK _ _ hb rfl trivial
      · refine mono.dutyS_of rfl ?_
        intro f W L hR hO hD hL hi hX K hK
        have eL : mono.lit 60 f [] = ⟨#[f 0, f 1, f 2, f 3, f 4, f 5, f 6, f 7, f 8, f 9, f 10, f 11, f 12, f 13, f 14, f 15, f 16, f 17, f 18, f 19, f 20, f 21, f 22, f 23, f 24, f 25, f 26, f 27, f 28, f 29, f 30, f 31, f 32, f 33, f 34, f 35, f 36, f 37, f 38, f 39, f 40, f 41, f 42, f 43, f 44, f 45, f 46, f 47, f 48, f 49, f 50, f 51, f 52, f 53, f 54, f 55, f 56, f 57, f 58, f 59], []⟩ := rfl
        replace hK : ∀ v W', (fun W W' => Below W.heap.size W W') W W' → phRe E ao cp w.heap.size S1 S2 S3 S4 S5 S6 6 v W' → (fun _ _ => True) (fun j => if j = 6 then true else L j) W' → K ((mono.lit 60 f []).put (some 17) v) W' := hK
        rw [eL] at hK ⊢
        simp only [Act.put, List.setIfInBounds_toArray, List.set_cons_succ, List.set_cons_zero] at hK
        have q2 := hD 2 13 (by kernel_rfl) (by kernel_rfl)
        replace q2 : f 13 = (.string (S1)) := q2
        have q5 := hD 5 16 (by kernel_rfl) (by kernel_rfl)
        replace q5 : f 16 = (.string (S2)) := q5
        rw [q2, q5] at hK ⊢
        go_simp
        exact hK _ _ (Below.refl _ _) rfl trivial
      · refine mono.dutyS_of rfl ?_
        intro f W L hR hO hD hL hi hX K hK
        have eL : mono.lit 60 f [] = ⟨#[f 0, f 1, f 2, f 3, f 4, f 5, f 6, f 7, f 8, f 9, f 10, f 11, f 12, f 13, f 14, f 15, f 16, f 17, f 18, f 19, f 20, f 21, f 22, f 23, f 24, f 25, f 26, f 27, f 28, f 29, f 30, f 31, f 32, f 33, f 34, f 35, f 36, f 37, f 38, f 39, f 40, f 41, f 42, f 43, f 44, f 45, f 46, f 47, f 48, f 49, f 50, f 51, f 52, f 53, f 54, f 55, f 56, f 57, f 58, f 59], []⟩ := rfl
        replace hK : ∀ v W', (fun W W' => Below W.heap.size W W') W W' → phRe E ao cp w.heap.size S1 S2 S3 S4 S5 S6 7 v W' → (fun _ _ => True) (fun j => if j = 7 then true else L j) W' → K ((mono.lit 60 f []).put (some 18) v) W' := hK
        rw [eL] at hK ⊢
        simp only [Act.put, List.setIfInBounds_toArray, List.set_cons_succ, List.set_cons_zero] at hK
        have o1 : f 1 = (.pointer (some ⟨w.heap.size, 0, none⟩)) := hO 1 (by kernel_rfl)
        rw [o1] at hK ⊢
        go_simp
        exact hK _ _ (Below.refl _ _) rfl trivial
      · refine mono.dutyS_of rfl ?_
        intro f W L hR hO hD hL hi hX K hK
        have eL : mono.lit 60 f [] = ⟨#[f 0, f 1, f 2, f 3, f 4, f 5, f 6, f 7, f 8, f 9, f 10, f 11, f 12, f 13, f 14, f 15, f 16, f 17, f 18, f 19, f 20, f 21, f 22, f 23, f 24, f 25, f 26, f 27, f 28, f 29, f 30, f 31, f 32, f 33, f 34, f 35, f 36, f 37, f 38, f 39, f 40, f 41, f 42, f 43, f 44, f 45, f 46, f 47, f 48, f 49, f 50, f 51, f 52, f 53, f 54, f 55, f 56, f 57, f 58, f 59], []⟩ := rfl
        replace hK : ∀ v W', (fun W W' => Below W.heap.size W W') W W' → phRe E ao cp w.heap.size S1 S2 S3 S4 S5 S6 8 v W' → (fun _ _ => True) (fun j => if j = 8 then true else L j) W' → K ((mono.lit 60 f []).put (some 19) v) W' := hK
        rw [eL] at hK ⊢
        simp only [Act.put, List.setIfInBounds_toArray, List.set_cons_succ, List.set_cons_zero] at hK
        have q7 := hD 7 18 (by kernel_rfl) (by kernel_rfl)
        replace q7 : f 18 = (.pointer (some ⟨w.heap.size, 2, none⟩)) := q7
        rw [q7] at hK ⊢
        obtain ⟨x0, x1, x2, x3, x4, x5⟩ := cellsEB (EB.below (W := w1.drew) hE1 hR)
        go_simp
        exact hK _ _ (Below.refl _ _) rfl trivial
      · refine mono.dutyS_of rfl ?_
        intro f W L hR hO hD hL hi hX K hK
        have eL : mono.lit 60 f [] = ⟨#[f 0, f 1, f 2, f 3, f 4, f 5, f 6, f 7, f 8, f 9, f 10, f 11, f 12, f 13, f 14, f 15, f 16, f 17, f 18, f 19, f 20, f 21, f 22, f 23, f 24, f 25, f 26, f 27, f 28, f 29, f 30, f 31, f 32, f 33, f 34, f 35, f 36, f 37, f 38, f 39, f 40, f 41, f 42, f 43, f 44, f 45, f 46, f 47, f 48, f 49, f 50, f 51, f 52, f 53, f 54, f 55, f 56, f 57, f 58, f 59], []⟩ := rfl
        replace hK : ∀ v W', (fun W W' => Below W.heap.size W W') W W' → phRe E ao cp w.heap.size S1 S2 S3 S4 S5 S6 9 v W' → (fun _ _ => True) (fun j => if j = 9 then true else L j) W' → K ((mono.lit 60 f []).put (some 20) v) W' := hK
        rw [eL] at hK ⊢
        simp only [Act.put, List.setIfInBounds_toArray, List.set_cons_succ, List.set_cons_zero] at hK
        have q8 := hD 8 19 (by kernel_rfl) (by kernel_rfl)
        replace q8 : f 19 = (.int .i64 E.r) := q8
        rw [q8] at hK ⊢
        have cX := n3 W
        go_simp
        refine cX.mono ?_
        rintro e w9 ⟨rfl, hb⟩
        exact hK _ _ hb rfl trivial
      · refine mono.dutyS_of rfl ?_
        intro f W L hR hO hD hL hi hX K hK
        have eL : mono.lit 60 f [] = ⟨#[f 0, f 1, f 2, f 3, f 4, f 5, f 6, f 7, f 8, f 9, f 10, f 11, f 12, f 13, f 14, f 15, f 16, f 17, f 18, f 19, f 20, f 21, f 22, f 23, f 24, f 25, f 26, f 27, f 28, f 29, f 30, f 31, f 32, f 33, f 34, f 35, f 36, f 37, f 38, f 39, f 40, f 41, f 42, f 43, f 44, f 45, f 46, f 47, f 48, f 49, f 50, f 51, f 52, f 53, f 54, f 55, f 56, f 57, f 58, f 59], []⟩ := rfl
        replace hK : ∀ v W', (fun W W' => Below W.heap.size W W') W W' → phRe E ao cp w.heap.size S1 S2 S3 S4 S5 S6 10 v W' → (fun _ _ => True) (fun j => if j = 10 then true else L j) W' → K ((mono.lit 60 f []).put (some 21) v) W' := hK
        rw [eL] at hK ⊢
        simp only [Act.put, List.setIfInBounds_toArray, List.set_cons_succ, List.set_cons_zero] at hK
        have q6 := hD 6 17 (by kernel_rfl) (by kernel_rfl)
        replace q6 : f 17 = (.string (S1 ++ S2)) := q6
        have q9 := hD 9 20 (by kernel_rfl) (by kernel_rfl)
        replace q9 : f 20 = (.string (S3)) := q9
        rw [q6, q9] at hK ⊢
        go_simp
        exact hK _ _ (Below.refl _ _) rfl trivial
      · refine mono.dutyS_of rfl ?_
        intro f W L hR hO hD hL hi hX K hK
        have eL : mono.lit 60 f [] = ⟨#[f 0, f 1, f 2, f 3, f 4, f 5, f 6, f 7, f 8, f 9, f 10, f 11, f 12, f 13, f 14, f 15, f 16, f 17, f 18, f 19, f 20, f 21, f 22, f 23, f 24, f 25, f 26, f 27, f 28, f 29, f 30, f 31, f 32, f 33, f 34, f 35, f 36, f 37, f 38, f 39, f 40, f 41, f 42, f 43, f 44, f 45, f 46, f 47, f 48, f 49, f 50, f 51, f 52, f 53, f 54, f 55, f 56, f 57, f 58, f 59], []⟩ := rfl
        replace hK : ∀ v W', (fun W W' => Below W.heap.size W W') W W' → phRe E ao cp w.heap.size S1 S2 S3 S4 S5 S6 11 v W' → (fun _ _ => True) (fun j => if j = 11 then true else L j) W' → K ((mono.lit 60 f []).put (some 22) v) W' := hK
        rw [eL] at hK ⊢
        simp only [Act.put, List.setIfInBounds_toArray, List.set_cons_succ, List.set_cons_zero] at hK
        have o1 : f 1 = (.pointer (some ⟨w.heap.size, 0, none⟩)) := hO 1 (by kernel_rfl)
        rw [o1] at hK ⊢
        go_simp
        exact hK _ _ (Below.refl _ _) rfl trivial
      · refine mono.dutyS_of rfl ?_
        intro f W L hR hO hD hL hi hX K hK
        have eL : mono.lit 60 f [] = ⟨#[f 0, f 1, f 2, f 3, f 4, f 5, f 6, f 7, f 8, f 9, f 10, f 11, f 12, f 13, f 14, f 15, f 16, f 17, f 18, f 19, f 20, f 21, f 22, f 23, f 24, f 25, f 26, f 27, f 28, f 29, f 30, f 31, f 32, f 33, f 34, f 35, f 36, f 37, f 38, f 39, f 40, f 41, f 42, f 43, f 44, f 45, f 46, f 47, f 48, f 49, f 50, f 51, f 52, f 53, f 54, f 55, f 56, f 57, f 58, f 59], []⟩ := rfl
        replace hK : ∀ v W', (fun W W' => Below W.heap.size W W') W W' → phRe E ao cp w.heap.size S1 S2 S3 S4 S5 S6 12 v W' → (fun _ _ => True) (fun j => if j = 12 then true else L j) W' → K ((mono.lit 60 f []).put (some 23) v) W' := hK
        rw [eL] at hK ⊢
        simp only [Act.put, List.setIfInBounds_toArray, List.set_cons_succ, List.set_cons_zero] at hK
        have q11 := hD 11 22 (by kernel_rfl) (by kernel_rfl)
        replace q11 : f 22 = (.pointer (some ⟨w.heap.size, 3, none⟩)) := q11
        rw [q11] at hK ⊢
        obtain ⟨x0, x1, x2, x3, x4, x5⟩ := cellsEB (EB.below (W := w1.drew) hE1 hR)
        go_simp
        exact hK _ _ (Below.refl _ _) rfl trivial
      · refine mono.dutyS_of rfl ?_
        intro f W L hR hO hD hL hi hX K hK
        have eL : mono.lit 60 f [] = ⟨#[f 0, f 1, f 2, f 3, f 4, f 5, f 6, f 7, f 8, f 9, f 10, f 11, f 12, f 13, f 14, f 15, f 16, f 17, f 18, f 19, f 20, f 21, f 22, f 23, f 24, f 25, f 26, f 27, f 28, f 29, f 30, f 31, f 32, f 33, f 34, f 35, f 36, f 37, f 38, f 39, f 40, f 41, f 42, f 43, f 44, f 45, f 46, f 47, f 48, f 49, f 50, f 51, f 52, f 53, f 54, f 55, f 56, f 57, f 58, f 59], []⟩ := rfl
        replace hK : ∀ v W', (fun W W' => Below W.heap.size W W') W W' → phRe E ao cp w.heap.size S1 S2 S3 S4 S5 S6 13 v W' → (fun _ _ => True) (fun j => if j = 13 then true else L j) W' → K ((mono.lit 60 f []).put (some 24) v) W' := hK
        rw [eL] at hK ⊢
        simp only [Act.put, List.setIfInBounds_toArray, List.set_cons_succ, List.set_cons_zero] at hK
        have q12 := hD 12 23 (by kernel_rfl) (by kernel_rfl)
        replace q12 : f 23 = (.string (E.t)) := q12
        rw [q12] at hK ⊢
        have cX := n4 W
        go_simp
        refine cX.mono ?_
        rintro e w9 ⟨rfl, hb⟩
        exact hK _ _ hb rfl trivial
      · refine mono.dutyS_of rfl ?_
        intro f W L hR hO hD hL hi hX K hK
        have eL : mono.lit 60 f [] = ⟨#[f 0, f 1, f 2, f 3, f 4, f 5, f 6, f 7, f 8, f 9, f 10, f 11, f 12, f 13, f 14, f 15, f 16, f 17, f 18, f 19, f 20, f 21, f 22, f 23, f 24, f 25, f 26, f 27, f 28, f 29, f 30, f 31, f 32, f 33, f 34, f 35, f 36, f 37, f 38, f 39, f 40, f 41, f 42, f 43, f 44, f 45, f 46, f 47, f 48, f 49, f 50, f 51, f 52, f 53, f 54, f 55, f 56, f 57, f 58, f 59], []⟩ := rfl
        replace hK : ∀ v W', (fun W W' => Below W.heap.size W W') W W' → phRe E ao cp w.heap.size S1 S2 S3 S4 S5 S6 14 v W' → (fun _ _ => True) (fun j => if j = 14 then true else L j) W' → K ((mono.lit 60 f []).put (some 25) v) W' := hK
        rw [eL] at hK ⊢
        simp only [Act.put, List.setIfInBounds_toArray, List.set_cons_succ, List.set_cons_zero] at hK
        have q10 := hD 10 21 (by kernel_rfl) (by kernel_rfl)
        replace q10 : f 21 = (.string (S1 ++ S2 ++ S3)) := q10
        have q13 := hD 13 24 (by kernel_rfl) (by kernel_rfl)
        replace q13 : f 24 = (.string (S4)) := q13
        rw [q10, q13] at hK ⊢
        go_simp
        exact hK _ _ (Below.refl _ _) rfl trivial
      · refine mono.dutyS_of rfl ?_
        intro f W L hR hO hD hL hi hX K hK
        have eL : mono.lit 60 f [] = ⟨#[f 0, f 1, f 2, f 3, f 4, f 5, f 6, f 7, f 8, f 9, f 10, f 11, f 12, f 13, f 14, f 15, f 16, f 17, f 18, f 19, f 20, f 21, f 22, f 23, f 24, f 25, f 26, f 27, f 28, f 29, f 30, f 31, f 32, f 33, f 34, f 35, f 36, f 37, f 38, f 39, f 40, f 41, f 42, f 43, f 44, f 45, f 46, f 47, f 48, f 49, f 50, f 51, f 52, f 53, f 54, f 55, f 56, f 57, f 58, f 59], []⟩ := rfl
        replace hK : ∀ v W', (fun W W' => Below W.heap.size W W') W W' → phRe E ao cp w.heap.size S1 S2 S3 S4 S5 S6 15 v W' → (fun _ _ => True) (fun j => if j = 15 then true else L j) W' → K ((mono.lit 60 f []).put (some 26) v) W' := hK
        rw [eL] at hK ⊢
        simp only [Act.put, List.setIfInBounds_toArray, List.set_cons_succ, List.set_cons_zero] at hK
        have o1 : f 1 = (.pointer (some ⟨w.heap.size, 0, none⟩)) := hO 1 (by kernel_rfl)
        rw [o1] at hK ⊢
        go_simp
        exact hK _ _ (Below.refl _ _) rfl trivial
      · refine mono.dutyS_of rfl ?_
        intro f W L hR hO hD hL hi hX K hK
        have eL : mono.lit 60 f [] = ⟨#[f 0, f 1, f 2, f 3, f 4, f 5, f 6, f 7, f 8, f 9, f 10, f 11, f 12, f 13, f 14, f 15, f 16, f 17, f 18, f 19, f 20, f 21, f 22, f 23, f 24, f 25, f 26, f 27, f 28, f 29, f 30, f 31, f 32, f 33, f 34, f 35, f 36, f 37, f 38, f 39, f 40, f 41, f 42, f 43, f 44, f 45, f 46, f 47, f 48, f 49, f 50, f 51, f 52, f 53, f 54, f 55, f 56, f 57, f 58, f 59], []⟩ := rfl
        replace hK : ∀ v W', (fun W W' => Below W.heap.size W W') W W' → phRe E ao cp w.heap.size S1 S2 S3 S4 S5 S6 16 v W' → (fun _ _ => True) (fun j => if j = 16 then true else L j) W' → K ((mono.lit 60 f []).put (some 27) v) W' := hK
        rw [eL] at hK ⊢
        simp only [Act.put, List.setIfInBounds_toArray, List.set_cons_succ, List.set_cons_zero] at hK
        have q15 := hD 15 26 (by kernel_rfl) (by kernel_rfl)
        replace q15 : f 26 = (.pointer (some ⟨w.heap.size, 4, none⟩)) := q15
        rw [q15] at hK ⊢
        obtain ⟨x0, x1, x2, x3, x4, x5⟩ := cellsEB (EB.below (W := w1.drew) hE1 hR)
        go_simp
        exact hK _ _ (Below.refl _ _) rfl trivial
      · refine mono.dutyS_of rfl ?_
        intro f W L hR hO hD hL hi hX K hK
        have eL : mono.lit 60 f [] = ⟨#[f 0, f 1, f 2, f 3, f 4, f 5, f 6, f 7, f 8, f 9, f 10, f 11, f 12, f 13, f 14, f 15, f 16, f 17, f 18, f 19, f 20, f 21, f 22, f 23, f 24, f 25, f 26, f 27, f 28, f 29, f 30, f 31, f 32, f 33, f 34, f 35, f 36, f 37, f 38, f 39, f 40, f 41, f 42, f 43, f 44, f 45, f 46, f 47, f 48, f 49, f 50, f 51, f 52, f 53, f 54, f 55, f 56, f 57, f 58, f 59], []⟩ := rfl
        replace hK : ∀ v W', (fun W W' => Below W.heap.size W W') W W' → phRe E ao cp w.heap.size S1 S2 S3 S4 S5 S6 17 v W' → (fun _ _ => True) (fun j => if j = 17 then true else L j) W' → K ((mono.lit 60 f []).put (some 28) v) W' := hK
        rw [eL] at hK ⊢
        simp only [Act.put, List.setIfInBounds_toArray, List.set_cons_succ, List.set_cons_zero] at hK
        have q16 := hD 16 27 (by kernel_rfl) (by kernel_rfl)
        replace q16 : f 27 = (.int .i64 E.s) := q16
        rw [q16] at hK ⊢
        have cX := n5 W
        go_simp
        refine cX.mono ?_
        rintro e w9 ⟨rfl, hb⟩
        exact hK _ _ hb rfl trivial
      · refine mono.dutyS_of rfl ?_
        intro f W L hR hO hD hL hi hX K hK
        have eL : mono.lit 60 f [] = ⟨#[f 0, f 1, f 2, f 3, f 4, f 5, f 6, f 7, f 8, f 9, f 10, f 11, f 12, f 13, f 14, f 15, f 16, f 17, f 18, f 19, f 20, f 21, f 22, f 23, f 24, f 25, f 26, f 27, f 28, f 29, f 30, f 31, f 32, f 33, f 34, f 35, f 36, f 37, f 38, f 39, f 40, f 41, f 42, f 43, f 44, f 45, f 46, f 47, f 48, f 49, f 50, f 51, f 52, f 53, f 54, f 55, f 56, f 57, f 58, f 59], []⟩ := rfl
        replace hK : ∀ v W', (fun W W' => Below W.heap.size W W') W W' → phRe E ao cp w.heap.size S1 S2 S3 S4 S5 S6 18 v W' → (fun _ _ => True) (fun j => if j = 18 then true else L j) W' → K ((mono.lit 60 f []).put (some 29) v) W' := hK
        rw [eL] at hK ⊢
        simp only [Act.put, List.setIfInBounds_toArray, List.set_cons_succ, List.set_cons_zero] at hK
        have q14 := hD 14 25 (by kernel_rfl) (by kernel_rfl)
        replace q14 : f 25 = (.string (S1 ++ S2 ++ S3 ++ S4)) := q14
        have q17 := hD 17 28 (by kernel_rfl) (by kernel_rfl)
        replace q17 : f 28 = (.string (S5)) := q17
        rw [q14, q17] at hK ⊢
        go_simp
        exact hK _ _ (Below.refl _ _) rfl trivial
      · refine mono.dutyS_of rfl ?_
        intro f W L hR hO hD hL hi hX K hK
        have eL : mono.lit 60 f [] = ⟨#[f 0, f 1, f 2, f 3, f 4, f 5, f 6, f 7, f 8, f 9, f 10, f 11, f 12, f 13, f 14, f 15, f 16, f 17, f 18, f 19, f 20, f 21, f 22, f 23, f 24, f 25, f 26, f 27, f 28, f 29, f 30, f 31, f 32, f 33, f 34, f 35, f 36, f 37, f 38, f 39, f 40, f 41, f 42, f 43, f 44, f 45, f 46, f 47, f 48, f 49, f 50, f 51, f 52, f 53, f 54, f 55, f 56, f 57, f 58, f 59], []⟩ := rfl
        replace hK : ∀ v W', (fun W W' => Below W.heap.size W W') W W' → phRe E ao cp w.heap.size S1 S2 S3 S4 S5 S6 19 v W' → (fun _ _ => True) (fun j => if j = 19 then true else L j) W' → K ((mono.lit 60 f []).put (some 30) v) W' := hK
        rw [eL] at hK ⊢
        simp only [Act.put, List.setIfInBounds_toArray, List.set_cons_succ, List.set_cons_zero] at hK
        have o1 : f 1 = (.pointer (some ⟨w.heap.size, 0, none⟩)) := hO 1 (by kernel_rfl)
        rw [o1] at hK ⊢
        go_simp
        exact hK _ _ (Below.refl _ _) rfl trivial
      · refine mono.dutyS_of rfl ?_
        intro f W L hR hO hD hL hi hX K hK
        have eL : mono.lit 60 f [] = ⟨#[f 0, f 1, f 2, f 3, f 4, f 5, f 6, f 7, f 8, f 9, f 10, f 11, f 12, f 13, f 14, f 15, f 16, f 17, f 18, f 19, f 20, f 21, f 22, f 23, f 24, f 25, f 26, f 27, f 28, f 29, f 30, f 31, f 32, f 33, f 34, f 35, f 36, f 37, f 38, f 39, f 40, f 41, f 42, f 43, f 44, f 45, f 46, f 47, f 48, f 49, f 50, f 51, f 52, f 53, f 54, f 55, f 56, f 57, f 58, f 59], []⟩ := rfl
        replace hK : ∀ v W', (fun W W' => Below W.heap.size W W') W W' → phRe E ao cp w.heap.size S1 S2 S3 S4 S5 S6 20 v W' → (fun _ _ => True) (fun j => if j = 20 then true else L j) W' → K ((mono.lit 60 f []).put (some 31) v) W' := hK
        rw [eL] at hK ⊢
        simp only [Act.put, List.setIfInBounds_toArray, List.set_cons_succ, List.set_cons_zero] at hK
        have q19 := hD 19 30 (by kernel_rfl) (by kernel_rfl)
        replace q19 : f 30 = (.pointer (some ⟨w.heap.size, 5, none⟩)) := q19
        rw [q19] at hK ⊢
        obtain ⟨x0, x1, x2, x3, x4, x5⟩ := cellsEB (EB.below (W := w1.drew) hE1 hR)
        go_simp
        exact hK _ _ (Below.refl _ _) rfl trivial
      · refine mono.dutyS_of rfl ?_
        intro f W L hR hO hD hL hi hX K hK
        have eL : mono.lit 60 f [] = ⟨#[f 0, f 1, f 2, f 3, f 4, f 5, f 6, f 7, f 8, f 9, f 10, f 11, f 12, f 13, f 14, f 15, f 16, f 17, f 18, f 19, f 20, f 21, f 22, f 23, f 24, f 25, f 26, f 27, f 28, f 29, f 30, f 31, f 32, f 33, f 34, f 35, f 36, f 37, f 38, f 39, f 40, f 41, f 42, f 43, f 44, f 45, f 46, f 47, f 48, f 49, f 50, f 51, f 52, f 53, f 54, f 55, f 56, f 57, f 58, f 59], []⟩ := rfl
        replace hK : ∀ v W', (fun W W' => Below W.heap.size W W') W W' → phRe E ao cp w.heap.size S1 S2 S3 S4 S5 S6 21 v W' → (fun _ _ => True) (fun j => if j = 21 then true else L j) W' → K ((mono.lit 60 f []).put (some 32) v) W' := hK
        rw [eL] at hK ⊢
        simp only [Act.put, List.setIfInBounds_toArray, List.set_cons_succ, List.set_cons_zero] at hK
        have q20 := hD 20 31 (by kernel_rfl) (by kernel_rfl)
        replace q20 : f 31 = (.slice ao E.p.length cp) := q20
        rw [q20] at hK ⊢
        go_simp
        exact hK _ _ (Below.refl _ _) rfl trivial
      · refine mono.dutyS_of rfl ?_
        intro f W L hR hO hD hL hi hX K hK
        have eL : mono.lit 60 f [] = ⟨#[f 0, f 1, f 2, f 3, f 4, f 5, f 6, f 7, f 8, f 9, f 10, f 11, f 12, f 13, f 14, f 15, f 16, f 17, f 18, f 19, f 20, f 21, f 22, f 23, f 24, f 25, f 26, f 27, f 28, f 29, f 30, f 31, f 32, f 33, f 34, f 35, f 36, f 37, f 38, f 39, f 40, f 41, f 42, f 43, f 44, f 45, f 46, f 47, f 48, f 49, f 50, f 51, f 52, f 53, f 54, f 55, f 56, f 57, f 58, f 59], []⟩ := rfl
        replace hK : ∀ v W', (fun W W' => Below W.heap.size W W') W W' → phRe E ao cp w.heap.size S1 S2 S3 S4 S5 S6 22 v W' → (fun _ _ => True) (fun j => if j = 22 then true else L j) W' → K ((mono.lit 60 f []).put (some 33) v) W' := hK
        rw [eL] at hK ⊢
        simp only [Act.put, List.setIfInBounds_toArray, List.set_cons_succ, List.set_cons_zero] at hK
        have q21 := hD 21 32 (by kernel_rfl) (by kernel_rfl)
        replace q21 : f 32 = (.int .i64 (E.p.length : Int)) := q21
        rw [q21] at hK ⊢
        have cX := n6 W
        go_simp
        refine cX.mono ?_
        rintro e w9 ⟨rfl, hb⟩
        exact hK _ _ hb rfl trivial
      · refine mono.dutyS_of rfl ?_
        intro f W L hR hO hD hL hi hX K hK
        have eL : mono.lit 60 f [] = ⟨#[f 0, f 1, f 2, f 3, f 4, f 5, f 6, f 7, f 8, f 9, f 10, f 11, f 12, f 13, f 14, f 15, f 16, f 17, f 18, f 19, f 20, f 21, f 22, f 23, f 24, f 25, f 26, f 27, f 28, f 29, f 30, f 31, f 32, f 33, f 34, f 35, f 36, f 37, f 38, f 39, f 40, f 41, f 42, f 43, f 44, f 45, f 46, f 47, f 48, f 49, f 50, f 51, f 52, f 53, f 54, f 55, f 56, f 57, f 58, f 59], []⟩ := rfl
        replace hK : ∀ v W', (fun W W' => Below W.heap.size W W') W W' → phRe E ao cp w.heap.size S1 S2 S3 S4 S5 S6 23 v W' → (fun _ _ => True) (fun j => if j = 23 then true else L j) W' → K ((mono.lit 60 f []).put (some 34) v) W' := hK
        rw [eL] at hK ⊢
        simp only [Act.put, List.setIfInBounds_toArray, List.set_cons_succ, List.set_cons_zero] at hK
        have q18 := hD 18 29 (by kernel_rfl) (by kernel_rfl)
        replace q18 : f 29 = (.string (S1 ++ S2 ++ S3 ++ S4 ++ S5)) := q18
        have q22 := hD 22 33 (by kernel_rfl) (by kernel_rfl)
        replace q22 : f 33 = (.string (S6)) := q22
        rw [q18, q22] at hK ⊢
        go_simp
        exact hK _ _ (Below.refl _ _) rfl trivial
      · refine mono.dutyS_of rfl ?_
        intro f W L hR hO hD hL hi hX K hK
        have eL : mono.lit 60 f [] = ⟨#[f 0, f 1, f 2, f 3, f 4, f 5, f 6, f 7, f 8, f 9, f 10, f 11, f 12, f 13, f 14, f 15, f 16, f 17, f 18, f 19, f 20, f 21, f 22, f 23, f 24, f 25, f 26, f 27, f 28, f 29, f 30, f 31, f 32, f 33, f 34, f 35, f 36, f 37, f 38, f 39, f 40, f 41, f 42, f 43, f 44, f 45, f 46, f 47, f 48, f 49, f 50, f 51, f 52, f 53, f 54, f 55, f 56, f 57, f 58, f 59], []⟩ := rfl
        replace hK : ∀ v W', (fun W W' => Below W.heap.size W W') W W' → phRe E ao cp w.heap.size S1 S2 S3 S4 S5 S6 24 v W' → (fun _ _ => True) (fun j => if j = 24 then true else L j) W' → K ((mono.lit 60 f []).put (some 4) v) W' := hK
        rw [eL] at hK ⊢
        simp only [Act.put, List.setIfInBounds_toArray, List.set_cons_succ, List.set_cons_zero] at hK
        have q23 := hD 23 34 (by kernel_rfl) (by kernel_rfl)
        replace q23 : f 34 = (.string (S1 ++ S2 ++ S3 ++ S4 ++ S5 ++ S6)) := q23
        rw [q23] at hK ⊢
        go_simp
        exact hK _ _ (Below.refl _ _) rfl trivial
      · intro f W L hR hO hD hL hX
        have r0 := hO 0 (by kernel_rfl)
        have r1 := hO 1 (by kernel_rfl)
        have r2 := hO 2 (by kernel_rfl)
        have r3 := hO 3 (by kernel_rfl)
        have r4 := hD 24 4 (by kernel_rfl)
        replace r4 : f 4 = .string (S1 ++ S2 ++ S3 ++ S4 ++ S5 ++ S6) := r4
        have r5 := hO 5 (by kernel_rfl)
        have r6 := hO 6 (by kernel_rfl)
        have r7 := hO 7 (by kernel_rfl)
        have r8 := hO 8 (by kernel_rfl)
        have r9 := hO 9 (by kernel_rfl)
        have r10 := hO 10 (by kernel_rfl)
        have r35 := hO 35 (by kernel_rfl)
        have r36 := hO 36 (by kernel_rfl)
        have r37 := hO 37 (by kernel_rfl)
        have r38 := hO 38 (by kernel_rfl)
        have r39 := hO 39 (by kernel_rfl)
        have r40 := hO 40 (by kernel_rfl)
        have r41 := hO 41 (by kernel_rfl)
        have r42 := hO 42 (by kernel_rfl)
        have r43 := hO 43 (by kernel_rfl)
        have r44 := hO 44 (by kernel_rfl)
        have r45 := hO 45 (by kernel_rfl)
        have r46 := hO 46 (by kernel_rfl)
        have r47 := hO 47 (by kernel_rfl)
        have r48 := hO 48 (by kernel_rfl)
        have r49 := hO 49 (by kernel_rfl)
        have r50 := hO 50 (by kernel_rfl)
        have r51 := hO 51 (by kernel_rfl)
        have r52 := hO 52 (by kernel_rfl)
        have r53 := hO 53 (by kernel_rfl)
        have r54 := hO 54 (by kernel_rfl)
        have r55 := hO 55 (by kernel_rfl)
        have r56 := hO 56 (by kernel_rfl)
        have r57 := hO 57 (by kernel_rfl)
        have r58 := hO 58 (by kernel_rfl)
        have r59 := hO 59 (by kernel_rfl)
        have eL : mono.lit 60 f [] = ⟨#[f 0, f 1, f 2, f 3, f 4, f 5, f 6, f 7, f 8, f 9, f 10, f 11, f 12, f 13, f 14, f 15, f 16, f 17, f 18, f 19, f 20, f 21, f 22, f 23, f 24, f 25, f 26, f 27, f 28, f 29, f 30, f 31, f 32, f 33, f 34, f 35, f 36, f 37, f 38, f 39, f 40, f 41, f 42, f 43, f 44, f 45, f 46, f 47, f 48, f 49, f 50, f 51, f 52, f 53, f 54, f 55, f 56, f 57, f 58, f 59], []⟩ := rfl
        rw [eL, r0, r1, r2, r3, r4, r5, r6, r7, r8, r9, r10, r35, r36, r37, r38, r39, r40, r41, r42, r43, r44, r45, r46, r47, r48, r49, r50, r51, r52, r53, r54, r55, r56, r57, r58, r59]
        go_wp2_with fail
        go_meet
        exact ⟨rfl, (Below.refl _ _).drew.trans hR⟩
    case rest =>
      obtain ⟨rfl, hbx⟩ := hcut
      have zS : (S1 ++ S2 ++ S3 ++ S4 ++ S5 ++ S6).size ≤ 30000 := by simp only [ByteArray.size_append]; omega
      have HF2 : Hid (mk (frmE E) = (S1 ++ S2 ++ S3 ++ S4 ++ S5 ++ S6) ++ mk (txsB (dfs E.p))) := HF
      clear HF y1 y2 y3 y4 y5 z1 z2 z3 z4 z5 z6 n1 n2 n3 n4 n5 n6
      generalize S1 ++ S2 ++ S3 ++ S4 ++ S5 ++ S6 = SS at *
      clear S1 S2 S3 S4 S5 S6
      go_wp2_with fail
      go_loopw [4, 5] (fun s i wr => ∃ k : Nat, k ≤ E.p.length ∧ i = .int .i64 (k : Int) ∧ s = .string (SS ++ mk (txsB ((dfs E.p).take k))) ∧ Below wc.heap.size wc wr) (fun _ i _ => E.p.length - (Go.RowKit.intOf i).toNat)
      case atStart => exact ⟨0, by omega, rfl, congrArg Value.string (ByteArray.ext (by simp [txsB, mk])), Below.refl _ _⟩
      case round =>
        obtain ⟨k, hk, rfl, rfl, hbl⟩ := hrel
        have hbw := chain hbx hbl
        have hB := chain hB1 hbw
        have hEr := hE1.below hbw
        obtain ⟨x0, x1, x2, x3, x4, x5⟩ := cellsEB hEr
        by_cases hlt : k < E.p.length
        · have hlt' : (k : Int) < (E.p.length : Int) := by omega
          obtain ⟨ga, oa, u, rfl, hg, c0, c1, c2⟩ := hc k E.p[k] (by simp [hlt])
          have hxf := hpf E.p[k] (List.getElem_mem hlt)
          have hSk := hS E.p[k] (List.getElem_mem hlt)
          have hlD : k < (dfs E.p).length := by simp [dfs]; omega
          have HT : Hid (SS ++ mk (txsB ((dfs E.p).take (k + 1))) = (SS ++ mk (txsB ((dfs E.p).take k))) ++ (pk.textR (encR E.p[k].d).1).1) := by
            show _ = _
            rw [txsB_take _ _ hlD, mk_appC, ByteArray.append_assoc]
            simp [dfs, mk]
          have zk : (SS ++ mk (txsB ((dfs E.p).take k))).size ≤ 400000 := by
            rw [ByteArray.size_append, mk_size]
            have := txsB_len ((dfs E.p).take k)
            rw [List.length_take] at this
            omega
          have zt := textR_len (encR E.p[k].d).1
          have zz : ((encR E.p[k].d).1).size ≤ maxLen := dfs_size hF (List.mem_map.2 ⟨E.p[k], List.getElem_mem hlt, rfl⟩)
          replace c1 := (hB.cell (p := ⟨ga, oa + k * 2 + 1, none⟩) hg).trans c1
          have cE := refEncode_any u E.p[k].d wr (c2.below hB) hxf.dl hSk
          have cT := fun W => rtxt_any (encR E.p[k].d).1 W zz
          obtain ⟨au, ku, rfl⟩ := rdd_len c2
          clear hc hS c0 c2 hpf
          generalize E.p[k] = x at *
          generalize encR x.d = RR at *
          generalize (pk.textR RR.1).1 = TT at *
          replace zt : TT.size ≤ 20020 := zt
          generalize SS ++ mk (txsB ((dfs E.p).take k)) = SK at *
          have y1 : ¬ 9223372036854775807 < SK.size + TT.size := by omega
          go_wp2_with fail
          refine cE.mono ?_
          rintro e w5 ⟨rfl, hb5⟩
          go_wp2_with fail
          refine (cT _).mono ?_
          rintro e w6 ⟨rfl, hb6⟩
          go_wp2_with fail
          exact ⟨⟨k + 1, by omega, by go_num, by rw [HT.out], chain hbl (chain hb5 hb6)⟩, by simp [Go.RowKit.intOf]; omega⟩
        · have hlt' : ¬ (k : Int) < (E.p.length : Int) := by omega
          have hkl : k = E.p.length := by omega
          subst hkl
          have HK : Hid (SS ++ mk (txsB ((dfs E.p).take E.p.length)) = mk (frmE E)) := by
            show _ = _
            rw [HF2.out, List.take_of_length_le (by simp [dfs])]
          rw [HK.out]
          clear hc hS
          by_cases hz : 40000 < (mk (frmE E)).size
          · have e : R = (⟨#[]⟩, 201) := by rw [HR.out]; unfold encE; rw [if_pos hm, HL.out, if_pos hz]
            subst e
            have hz' : (40000 : Int) < ((mk (frmE E)).size : Int) := by omega
            clear HR HK HF2 HL
            generalize mk (frmE E) = FF at *
            go_wp2_with fail
            go_ret2
            exact ⟨rfl, hB⟩
          · have e : R = (mk (frmE E), 0) := by rw [HR.out]; unfold encE; rw [if_pos hm, HL.out, if_neg hz]
            subst e
            have hz' : ¬ (40000 : Int) < ((mk (frmE E)).size : Int) := by omega
            clear HR HK HF2 HL
            go_wp2_with fail
            go_ret2
            exact ⟨rfl, hB⟩
  · have hm' : mayE E = false := by simpa using hm
    have e : encE E = (⟨#[]⟩, 200) := by unfold encE; rw [if_neg hm]
    rw [e]
    rw [hm'] at cM
    obtain ⟨ao, cp, rfl, -, -⟩ := hr
    unfold EdD.fs at hA cM ⊢
    go_enter Tryz.func6, Tryz.ntmps6
    go_wp2_with fail
    refine cM.mono ?_
    rintro e w1 ⟨rfl, hb1⟩
    go_wp2_with fail
    go_ret2
    exact ⟨rfl, chain hA hb1⟩
end Go.Proofs.YtcdnlkhjlgaaoaaGreatDoor
