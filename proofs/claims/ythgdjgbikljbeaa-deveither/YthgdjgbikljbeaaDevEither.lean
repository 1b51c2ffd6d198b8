/-
  Proved: writes of unlike sectors, in either order, and a sync more, leave the same (the law DevEither), for every input.
-/
import Derived.Test.YthgdjgbikljbeaaOpsArg
import Derived.Test.YthgdjgbikljbeaaSame
namespace Go.Proofs.Ythgdjgbikljbeaa.devEither
open Go.RowKit Go.Maps Go.ChangeShapes Go.WideShapes Go.ChangeAt Go.PlainAid
open Go.ChangeMaps (open_string shut_string)

theorem putF_comm (f : SecF) {a b : Nat} (h : a ≠ b) (x y : Sec) : putF (putF f b y) a x = putF (putF f a x) b y := by
  funext i
  unfold putF
  by_cases h1 : i = a
  · subst h1; simp [h]
  · simp [h1]

theorem orF_none (f : SecF) : orF (fun _ => none) f = f := by
  funext i
  rfl

theorem rdOps_below {w w' : World} {v : Value} {l : List OpD} (h : RdOps w v l) (hb : Below w.heap.size w w') : RdOps w' v l := by
  obtain ⟨ao, cp, rfl, h⟩ := h
  refine ⟨ao, cp, rfl, fun i o ho => ?_⟩
  obtain ⟨b, off, rfl, hlt, e0, e1, e2, e3⟩ := h i o ho
  exact ⟨b, off, rfl, by have := hb.size; omega, by rw [hb.cell (p := ⟨b, _, none⟩) hlt]; exact e0, by rw [hb.cell (p := ⟨b, _, none⟩) hlt]; exact e1, by rw [hb.cell (p := ⟨b, _, none⟩) hlt]; exact e2, by rw [hb.cell (p := ⟨b, _, none⟩) hlt]; exact e3⟩

theorem op_val {v : Value} {o : OpD} (h : v.cells.toList = [.int .i64 o.d, .int .i64 o.k, .string o.x, .bool o.f]) : v = o.val := by
  cases v <;> simp [Value.cells] at h
  rename_i cs
  unfold OpD.val
  congr 1
  exact Array.toList_inj.1 (by simpa using h)

set_option maxRecDepth 20000 in
set_option maxHeartbeats 8000000 in
theorem walk (c : Int) (v1 : Value) (l1 : List OpD) (o1 o2 : OpD) (w : World) (hc0 : -9223372036854775808 ≤ c) (hc1 : c ≤ 9223372036854775807) (hv1 : RdOps w v1 l1) (hl1 : l1.length ≤ maxLen) (ho1 : ∀ o ∈ l1, o.Ok) (k1 : o1.Ok) (k2 : o2.Ok) :
    Calls Try.prog 7 #[.int .i64 c, v1, o1.val, o2.val] w fun e w' => e = .returned (.bool true) ∧ Below w.heap.size w w' := by
  have hBw : Below w.heap.size w ((w.alloc (.cells #[.int .i64 o1.d, .int .i64 o1.k, .string o1.x, .bool o1.f] 35)).alloc (.cells #[.int .i64 o2.d, .int .i64 o2.k, .string o2.x, .bool o2.f] 35)) := ((Below.refl _ _).alloc (Nat.le_refl _) _).alloc (by simp) _
  have cP := played_any c v1 l1 _ (rdOps_below hv1 hBw) hl1 ho1 hc0 hc1
  have hx1 : ((w.alloc (.cells #[.int .i64 o1.d, .int .i64 o1.k, .string o1.x, .bool o1.f] 35)).alloc (.cells #[.int .i64 o2.d, .int .i64 o2.k, .string o2.x, .bool o2.f] 35)).heap[w.heap.size]? = some (.cells #[.int .i64 o1.d, .int .i64 o1.k, .string o1.x, .bool o1.f] 35) := (Below.heap_alloc _ _ _ (by simp)).trans (heap_alloc_last w _)
  have hx2 : ((w.alloc (.cells #[.int .i64 o1.d, .int .i64 o1.k, .string o1.x, .bool o1.f] 35)).alloc (.cells #[.int .i64 o2.d, .int .i64 o2.k, .string o2.x, .bool o2.f] 35)).heap[w.heap.size + 1]? = some (.cells #[.int .i64 o2.d, .int .i64 o2.k, .string o2.x, .bool o2.f] 35) := by
    have := heap_alloc_last (w.alloc (.cells #[.int .i64 o1.d, .int .i64 o1.k, .string o1.x, .bool o1.f] 35)) (.cells #[.int .i64 o2.d, .int .i64 o2.k, .string o2.x, .bool o2.f] 35)
    rwa [World.size_alloc] at this
  have hsw : ((w.alloc (.cells #[.int .i64 o1.d, .int .i64 o1.k, .string o1.x, .bool o1.f] 35)).alloc (.cells #[.int .i64 o2.d, .int .i64 o2.k, .string o2.x, .bool o2.f] 35)).heap.size = w.heap.size + 2 := by simp
  rw [hsw] at cP
  obtain ⟨ao1, cp1, rfl, _⟩ := hv1
  have HW : Hid _ := hsw
  clear hc0 hc1 hl1 ho1 hsw
  unfold OpD.val
  go_enter Try.func7, Try.ntmps7
  go_wp2_with fail
  refine cP.mono ?_
  rintro e w1 ⟨p, bs, bw, s, rfl, hd1, hsn, hp1, hbs1, hbw1, hb1⟩
  clear cP hsn
  have y1 := (hb1.block w.heap.size (by omega)).trans hx1
  have y2 := (hb1.block (w.heap.size + 1) (by omega)).trans hx2
  have hB1 : Below w.heap.size w w1 := hBw.trans (hb1.mono (by omega))
  have sz1 := hb1.size
  rw [HW.out] at sz1
  clear hx1 hx2 hBw hb1 HW
  go_wp2_with fail
  refine (fuse_ok hd1 (-1) (by omega) (by omega)).mono ?_
  rintro e w2 ⟨rfl, hd2, ho2⟩
  have z1 := only_heap y1 ho2 (by simp; omega)
  have z2 := only_heap y2 ho2 (by simp; omega)
  have hB2 : Below w.heap.size w w2 := hB1.trans (ho2.below hB1.size (by simp; omega))
  have sz2 := ho2.size
  clear hd1 y1 y2 hB1 ho2
  have hn8 := hd2.lo
  have hn9 := hd2.hi
  have lp2 := hd2.ltp
  have ls2 := hd2.lts
  have lw2 := hd2.ltw
  go_wp2_with fail
  refine (copydev_any hd2).mono ?_
  rintro e w3 ⟨p', bs', bw', rfl, hc3, hp3, hbs3, hbw3, hb3⟩
  have hd3 := hd2.below hb3
  have y1 := (hb3.block w.heap.size (by omega)).trans z1
  have y2 := (hb3.block (w.heap.size + 1) (by omega)).trans z2
  have hB3 : Below w.heap.size w w3 := hB2.trans (hb3.mono hB2.size)
  have sz3 := hb3.size
  clear hd2 z1 z2 hB2 hb3
  have g1 : w3.cell? ⟨w.heap.size, 1, none⟩ = some (.int .i64 o1.k) := cell_at y1 1
  have g2 : w3.cell? ⟨w.heap.size + 1, 1, none⟩ = some (.int .i64 o2.k) := cell_at y2 1
  have cS : ∀ W, IsDev W p bs bw { s with fuse := -1 } → Calls Try.prog 24 #[.pointer (some ⟨p, 0, none⟩)] W fun e w' => e = .returned (.int .i64 (s.n : Int)) ∧ w' = W := fun W hW => sectors_any (s := { s with fuse := -1 }) hW
  have cK1 := fun W => pick_any o1.k (s.n : Int) W k1.k0 k1.k1 (by have : 8 ≤ s.n := hn8; omega) (by have : s.n ≤ 8192 := hn9; omega)
  have cK2 := fun W => pick_any o2.k (s.n : Int) W k2.k0 k2.k1 (by have : 8 ≤ s.n := hn8; omega) (by have : s.n ≤ 8192 := hn9; omega)
  have hpa := pickI_bd o1.k (s.n : Int) (by have : 8 ≤ s.n := hn8; omega)
  have hpb := pickI_bd o2.k (s.n : Int) (by have : 8 ≤ s.n := hn8; omega)
  obtain ⟨a, ha⟩ := Int.eq_ofNat_of_zero_le hpa.1
  obtain ⟨b, hb⟩ := Int.eq_ofNat_of_zero_le hpb.1
  rw [ha] at cK1 hpa
  rw [hb] at cK2 hpb
  have hal : a < s.n := by omega
  have hbl : b < s.n := by omega
  clear ha hb hpa hpb
  go_wp2_with fail
  have hd4 : IsDev w3.drew p bs bw { s with fuse := -1 } := hd3.kept (Only.drew [] _) (by simp) (by simp) (by simp)
  have hd5 : IsDev w3.drew.drew p bs bw { s with fuse := -1 } := hd4.kept (Only.drew [] _) (by simp) (by simp) (by simp)
  have hc5 : IsDev w3.drew.drew p' bs' bw' { s with fuse := -1 } := (hc3.kept (Only.drew [] _) (by simp) (by simp) (by simp)).kept (Only.drew [] _) (by simp) (by simp) (by simp)
  refine region_tail 4 Try.mixed (by kernel_rfl) ?_
  simp only [List.take_succ_cons, List.take_zero, List.drop_succ_cons, List.drop_zero]
  iterate 3 still_step
  still_call (cS _ hd4)
  refine wpStill_nil ?_
  go_wp2_with fail
  refine (cK1 _).mono ?_
  rintro e w4 ⟨rfl, hw⟩
  subst hw
  clear cK1 g1
  go_wp2_with fail
  refine region_tail 4 Try.mixed (by kernel_rfl) ?_
  simp only [List.take_succ_cons, List.take_zero, List.drop_succ_cons, List.drop_zero]
  iterate 3 still_step
  still_call (cS _ hd5)
  refine wpStill_nil ?_
  go_wp2_with fail
  refine (cK2 _).mono ?_
  rintro e w4 ⟨rfl, hw⟩
  subst hw
  clear cK2 cS g2 hd4
  by_cases hab : a = b
  · subst hab
    clear y1 y2 hd5 hc5 hd3 hc3
    go_wp2_with fail
    go_ret
    exact ⟨rfl, (hB3.drew).drew⟩
  · have hab' : ((a : Int) == (b : Int)) = false := by simp; omega
    have z1 : w3.drew.drew.heap[w.heap.size]? = some (.cells #[.int .i64 o1.d, .int .i64 o1.k, .string o1.x, .bool o1.f] 35) := y1
    have z2 : w3.drew.drew.heap[w.heap.size + 1]? = some (.cells #[.int .i64 o2.d, .int .i64 o2.k, .string o2.x, .bool o2.f] 35) := y2
    have hB5 : Below w.heap.size w w3.drew.drew := (hB3.drew).drew
    have hs5 : w3.heap.size = w3.drew.drew.heap.size := rfl
    rw [hs5] at sz3
    clear hs5 y1 y2 hd3 hc3 hB3
    generalize w3.drew.drew = w5 at *
    have p0 : w5.cell? ⟨w.heap.size, 0, none⟩ = some (.int .i64 o1.d) := cell_at z1 0
    have p1 : w5.cell? ⟨w.heap.size, 1, none⟩ = some (.int .i64 o1.k) := cell_at z1 1
    have p2 : w5.cell? ⟨w.heap.size, 2, none⟩ = some (.string o1.x) := cell_at z1 2
    have p3 : w5.cell? ⟨w.heap.size, 3, none⟩ = some (.bool o1.f) := cell_at z1 3
    have e0 : w5.cell? ⟨w.heap.size + 1, 0, none⟩ = some (.int .i64 o2.d) := cell_at z2 0
    have e1 : w5.cell? ⟨w.heap.size + 1, 1, none⟩ = some (.int .i64 o2.k) := cell_at z2 1
    have e2 : w5.cell? ⟨w.heap.size + 1, 2, none⟩ = some (.string o2.x) := cell_at z2 2
    have e3 : w5.cell? ⟨w.heap.size + 1, 3, none⟩ = some (.bool o2.f) := cell_at z2 3
    have f3 := frozen_at z2 3
    have f1 := frozen_at z1 3
    have t1 := heap_setCell z1 3 (.bool true)
    have O1 : Only [w.heap.size] w5 (w5.setCell ⟨w.heap.size, 3, none⟩ (.bool true)) := Only.setCell w5 (by simp) _
    have t2 := only_heap z2 O1 (by simp)
    have r2 := heap_setCell t2 3 (.bool true)
    have O2 : Only [w.heap.size + 1] (w5.setCell ⟨w.heap.size, 3, none⟩ (.bool true)) ((w5.setCell ⟨w.heap.size, 3, none⟩ (.bool true)).setCell ⟨w.heap.size + 1, 3, none⟩ (.bool true)) := Only.setCell _ (by simp) _
    have r1 := only_heap t1 O2 (by simp)
    have hd6 := (hd5.kept O1 (by simp; omega) (by simp; omega) (by simp; omega)).kept O2 (by simp; omega) (by simp; omega) (by simp; omega)
    have hc6 := (hc5.kept O1 (by simp; omega) (by simp; omega) (by simp; omega)).kept O2 (by simp; omega) (by simp; omega) (by simp; omega)
    have hB6 := (hB5.trans (O1.below hB5.size (by simp))).trans (O2.below (Nat.le_trans hB5.size O1.size) (by simp))
    have sz6 : w5.heap.size ≤ ((w5.setCell ⟨w.heap.size, 3, none⟩ (.bool true)).setCell ⟨w.heap.size + 1, 3, none⟩ (.bool true)).heap.size := Nat.le_trans O1.size O2.size
    clear hd5 hc5 O1 O2 t1 t2 z1 z2 hB5
    have kx1 := k1.x1
    have kx2 := k2.x1
    clear k1 k2
    go_wp2_with fail
    clear p0 p1 p2 p3 e0 e1 e2 e3 f1 f3
    have ra6 : ((w5.setCell ⟨w.heap.size, 3, none⟩ (.bool true)).setCell ⟨w.heap.size + 1, 3, none⟩ (.bool true)).heap[w.heap.size]? = some (.cells #[.int .i64 o1.d, .int .i64 o1.k, .string o1.x, .bool true] 35) := r1
    have rb6 : ((w5.setCell ⟨w.heap.size, 3, none⟩ (.bool true)).setCell ⟨w.heap.size + 1, 3, none⟩ (.bool true)).heap[w.heap.size + 1]? = some (.cells #[.int .i64 o2.d, .int .i64 o2.k, .string o2.x, .bool true] 35) := r2
    clear r1 r2
    generalize ((w5.setCell ⟨w.heap.size, 3, none⟩ (.bool true)).setCell ⟨w.heap.size + 1, 3, none⟩ (.bool true)) = w6 at *
    refine (opBytes_any _ _ _ _ _ kx1).mono ?_
    rintro e w7 ⟨rfl, hb7⟩
    have hd7 := hd6.below hb7
    have hc7 := hc6.below hb7
    have ra7 := (hb7.block w.heap.size (by omega)).trans ra6
    have rb7 := (hb7.block (w.heap.size + 1) (by omega)).trans rb6
    have hB7 : Below w.heap.size w w7 := hB6.trans (hb7.mono hB6.size)
    have sz7 := hb7.size
    clear hd6 hc6 ra6 rb6 hB6 hb7
    have cw8 : Calls Try.prog 17 #[.pointer (some ⟨p, 0, none⟩), .int .i64 (a : Int), .string (opBytes o1.x true)] w7 fun e w' => e = .returned (.int .i64 0) ∧ IsDev w' p bs bw { s with fuse := -1, waits := putF s.waits a (opBytes o1.x true).data.toList } ∧ Only [p, bw] w7 w' := write_ok hd7 a _ hal rfl (opBytes_size _)
    go_wp2_with fail
    refine cw8.mono ?_
    rintro e w8 ⟨rfl, hd8, ho8⟩
    have hc8 := hc7.kept ho8 (by simp; omega) (by simp; omega) (by simp; omega)
    have ra8 := only_heap ra7 ho8 (by simp; omega)
    have rb8 := only_heap rb7 ho8 (by simp; omega)
    have hB8 : Below w.heap.size w w8 := hB7.trans (ho8.below hB7.size (by simp; omega))
    have sz8 := ho8.size
    clear cw8 hd7 hc7 ra7 rb7 hB7 ho8
    have q0 : w8.cell? ⟨w.heap.size + 1, 0, none⟩ = some (.int .i64 o2.d) := cell_at rb8 0
    have q1 : w8.cell? ⟨w.heap.size + 1, 1, none⟩ = some (.int .i64 o2.k) := cell_at rb8 1
    have q2 : w8.cell? ⟨w.heap.size + 1, 2, none⟩ = some (.string o2.x) := cell_at rb8 2
    have q3 : w8.cell? ⟨w.heap.size + 1, 3, none⟩ = some (.bool true) := cell_at rb8 3
    go_wp2_with fail
    refine (opBytes_any _ _ _ _ _ kx2).mono ?_
    rintro e w9 ⟨rfl, hb9⟩
    have hd9 := hd8.below hb9
    have hc9 := hc8.below hb9
    have ra9 := (hb9.block w.heap.size (by omega)).trans ra8
    have rb9 := (hb9.block (w.heap.size + 1) (by omega)).trans rb8
    have hB9 : Below w.heap.size w w9 := hB8.trans (hb9.mono hB8.size)
    have sz9 := hb9.size
    clear q0 q1 q2 q3 hd8 hc8 ra8 rb8 hB8 hb9
    have cw10 : Calls Try.prog 17 #[.pointer (some ⟨p, 0, none⟩), .int .i64 (b : Int), .string (opBytes o2.x true)] w9 fun e w' => e = .returned (.int .i64 0) ∧ IsDev w' p bs bw { s with fuse := -1, waits := putF (putF s.waits a (opBytes o1.x true).data.toList) b (opBytes o2.x true).data.toList } ∧ Only [p, bw] w9 w' := write_ok hd9 b _ hbl rfl (opBytes_size _)
    go_wp2_with fail
    refine cw10.mono ?_
    rintro e w10 ⟨rfl, hd10, ho10⟩
    have hc10 := hc9.kept ho10 (by simp; omega) (by simp; omega) (by simp; omega)
    have ra10 := only_heap ra9 ho10 (by simp; omega)
    have rb10 := only_heap rb9 ho10 (by simp; omega)
    have hB10 : Below w.heap.size w w10 := hB9.trans (ho10.below hB9.size (by simp; omega))
    have sz10 := ho10.size
    clear cw10 hd9 hc9 ra9 rb9 hB9 ho10
    have q0 : w10.cell? ⟨w.heap.size + 1, 0, none⟩ = some (.int .i64 o2.d) := cell_at rb10 0
    have q1 : w10.cell? ⟨w.heap.size + 1, 1, none⟩ = some (.int .i64 o2.k) := cell_at rb10 1
    have q2 : w10.cell? ⟨w.heap.size + 1, 2, none⟩ = some (.string o2.x) := cell_at rb10 2
    have q3 : w10.cell? ⟨w.heap.size + 1, 3, none⟩ = some (.bool true) := cell_at rb10 3
    go_wp2_with fail
    refine (opBytes_any _ _ _ _ _ kx2).mono ?_
    rintro e w11 ⟨rfl, hb11⟩
    have hd11 := hd10.below hb11
    have hc11 := hc10.below hb11
    have ra11 := (hb11.block w.heap.size (by omega)).trans ra10
    have rb11 := (hb11.block (w.heap.size + 1) (by omega)).trans rb10
    have hB11 : Below w.heap.size w w11 := hB10.trans (hb11.mono hB10.size)
    have sz11 := hb11.size
    clear q0 q1 q2 q3 hd10 hc10 ra10 rb10 hB10 hb11
    have cw12 : Calls Try.prog 17 #[.pointer (some ⟨p', 0, none⟩), .int .i64 (b : Int), .string (opBytes o2.x true)] w11 fun e w' => e = .returned (.int .i64 0) ∧ IsDev w' p' bs' bw' { s with fuse := -1, waits := putF s.waits b (opBytes o2.x true).data.toList } ∧ Only [p', bw'] w11 w' := write_ok hc11 b _ hbl rfl (opBytes_size _)
    go_wp2_with fail
    refine cw12.mono ?_
    rintro e w12 ⟨rfl, hc12, ho12⟩
    have hd12 := hd11.kept ho12 (by simp; omega) (by simp; omega) (by simp; omega)
    have ra12 := only_heap ra11 ho12 (by simp; omega)
    have rb12 := only_heap rb11 ho12 (by simp; omega)
    have hB12 : Below w.heap.size w w12 := hB11.trans (ho12.below hB11.size (by simp; omega))
    have sz12 := ho12.size
    clear cw12 hd11 hc11 ra11 rb11 hB11 ho12
    have q0 : w12.cell? ⟨w.heap.size, 0, none⟩ = some (.int .i64 o1.d) := cell_at ra12 0
    have q1 : w12.cell? ⟨w.heap.size, 1, none⟩ = some (.int .i64 o1.k) := cell_at ra12 1
    have q2 : w12.cell? ⟨w.heap.size, 2, none⟩ = some (.string o1.x) := cell_at ra12 2
    have q3 : w12.cell? ⟨w.heap.size, 3, none⟩ = some (.bool true) := cell_at ra12 3
    go_wp2_with fail
    refine (opBytes_any _ _ _ _ _ kx1).mono ?_
    rintro e w13 ⟨rfl, hb13⟩
    have hd13 := hd12.below hb13
    have hc13 := hc12.below hb13
    have ra13 := (hb13.block w.heap.size (by omega)).trans ra12
    have rb13 := (hb13.block (w.heap.size + 1) (by omega)).trans rb12
    have hB13 : Below w.heap.size w w13 := hB12.trans (hb13.mono hB12.size)
    have sz13 := hb13.size
    clear q0 q1 q2 q3 hd12 hc12 ra12 rb12 hB12 hb13
    have cw14 : Calls Try.prog 17 #[.pointer (some ⟨p', 0, none⟩), .int .i64 (a : Int), .string (opBytes o1.x true)] w13 fun e w' => e = .returned (.int .i64 0) ∧ IsDev w' p' bs' bw' { s with fuse := -1, waits := putF (putF s.waits b (opBytes o2.x true).data.toList) a (opBytes o1.x true).data.toList } ∧ Only [p', bw'] w13 w' := write_ok hc13 a _ hal rfl (opBytes_size _)
    go_wp2_with fail
    refine cw14.mono ?_
    rintro e w14 ⟨rfl, hc14, ho14⟩
    have hd14 := hd13.kept ho14 (by simp; omega) (by simp; omega) (by simp; omega)
    have ra14 := only_heap ra13 ho14 (by simp; omega)
    have rb14 := only_heap rb13 ho14 (by simp; omega)
    have hB14 : Below w.heap.size w w14 := hB13.trans (ho14.below hB13.size (by simp; omega))
    have sz14 := ho14.size
    clear cw14 hd13 hc13 ra13 rb13 hB13 ho14
    rw [putF_comm s.waits hab] at hc14
    have hfull := hd14.fw
    clear ra14 rb14
    generalize putF (putF s.waits a (opBytes o1.x true).data.toList) b (opBytes o2.x true).data.toList = wt at hd14 hc14 hfull
    generalize opBytes o1.x true = X1
    generalize opBytes o2.x true = X2
    go_wp2_with fail
    refine (waiting_any hd14).mono ?_
    rintro e w15 ⟨v15, rfl, hr15, _, hb15⟩
    have rd15 := rdN_own hr15
    have hd15 := hd14.below hb15
    have hc15 := hc14.below hb15
    have hB15 : Below w.heap.size w w15 := hB14.trans (hb15.mono hB14.size)
    have sz15 := hb15.size
    clear hd14 hc14 hB14 hb15 hr15
    go_wp2_with fail
    refine (waiting_any hc15).mono ?_
    rintro e w16 ⟨v16, rfl, hr16, _, hb16⟩
    have rd16 := rdN_own hr16
    have rd15' := rd15.below hb16
    have hd16 := hd15.below hb16
    have hc16 := hc15.below hb16
    have hB16 : Below w.heap.size w w16 := hB15.trans (hb16.mono hB15.size)
    have sz16 := hb16.size
    have cSm := same_true _ _ _ _ rd15' rd16 (Nat.le_trans (keysF_le _ _) hn9)
    clear hd15 hc15 hB15 hb16 hr16 rd15 rd15' rd16
    go_wp2_with fail
    refine cSm.mono ?_
    rintro e w17 ⟨rfl, hb17⟩
    have hd17 := hd16.below hb17
    have hc17 := hc16.below hb17
    have hB17 : Below w.heap.size w w17 := hB16.trans (hb17.mono hB16.size)
    have sz17 := hb17.size
    clear hd16 hc16 hB16 hb17 cSm
    have cD : Calls Try.prog 19 #[.pointer (some ⟨p, 0, none⟩)] w17 fun e w' => e = .returned (.int .i64 0) ∧ IsDev w' p bs bw { s with fuse := -1, safe := orF wt s.safe, waits := fun _ => none } ∧ Only [p, bs, bw] w17 w' := sync_ok hd17 rfl
    go_wp2_with fail
    refine cD.mono ?_
    rintro e w18 ⟨rfl, hd18, ho18⟩
    have hc18 := hc17.kept ho18 (by simp; omega) (by simp; omega) (by simp; omega)
    have hB18 : Below w.heap.size w w18 := hB17.trans (ho18.below hB17.size (by simp; omega))
    have sz18 := ho18.size
    clear cD hd17 hc17 hB17 ho18
    have cC : Calls Try.prog 19 #[.pointer (some ⟨p', 0, none⟩)] w18 fun e w' => e = .returned (.int .i64 0) ∧ IsDev w' p' bs' bw' { s with fuse := -1, safe := orF wt s.safe, waits := fun _ => none } ∧ Only [p', bs', bw'] w18 w' := sync_ok hc18 rfl
    go_wp2_with fail
    refine cC.mono ?_
    rintro e w19 ⟨rfl, hc19, ho19⟩
    have hd19 := hd18.kept ho19 (by simp; omega) (by simp; omega) (by simp; omega)
    have hB19 : Below w.heap.size w w19 := hB18.trans (ho19.below hB18.size (by simp; omega))
    have sz19 := ho19.size
    clear cC hd18 hc18 hB18 ho19
    have cE : Calls Try.prog 19 #[.pointer (some ⟨p', 0, none⟩)] w19 fun e w' => e = .returned (.int .i64 0) ∧ IsDev w' p' bs' bw' { s with fuse := -1, safe := orF (fun _ => none) (orF wt s.safe), waits := fun _ => none } ∧ Only [p', bs', bw'] w19 w' := sync_ok hc19 rfl
    rw [orF_none] at cE
    go_wp2_with fail
    refine cE.mono ?_
    rintro e w20 ⟨rfl, hc20, ho20⟩
    have hd20 := hd19.kept ho20 (by simp; omega) (by simp; omega) (by simp; omega)
    have hB20 : Below w.heap.size w w20 := hB19.trans (ho20.below hB19.size (by simp; omega))
    clear cE hd19 hc19 hB19 ho20
    obtain ⟨st, hst, hstn⟩ : ∃ st : DevS, st = { s with fuse := -1, safe := orF wt s.safe, waits := fun _ => none } ∧ st.keys = [] := ⟨_, rfl, by
      unfold DevS.keys keysF
      rw [List.filter_eq_nil_iff]
      intro i _
      simp⟩
    rw [← hst] at hd20 hc20
    have hsn : s.n = st.n := by rw [hst]
    have HK : Hid (st.keys = []) := hstn
    clear hst hstn hfull
    have cS : ∀ W, Below w20.heap.size w20 W → Calls Try.prog 24 #[.pointer (some ⟨p, 0, none⟩)] W fun e w' => e = .returned (.int .i64 (st.n : Int)) ∧ w' = W := fun W hW => sectors_any (hd20.below hW)
    have hn20 := hd20.hi
    clear hsn
    go_wp2_with fail
    go_loopw [13] (fun i wr => ∃ (k : Nat), k ≤ st.n ∧ i = .int .i64 (k : Int) ∧ Below w20.heap.size w20 wr) (fun i _ => st.n - (intOf i).toNat)
    case atStart => exact ⟨0, Nat.zero_le _, rfl, Below.refl _ _⟩
    case round =>
      obtain ⟨k, hk, rfl, hBr⟩ := hrel
      by_cases hlt : k < st.n
      · have hlt' : (k : Int) < (st.n : Int) := by omega
        have c1 := safe_ok (hd20.below hBr) k hlt
        have c2 : ∀ W, Below w20.heap.size w20 W → Calls Try.prog 25 #[.pointer (some ⟨p', 0, none⟩), .int .i64 (k : Int)] W fun e w' => e = .returned (.tuple #[.string (mk (st.safeAt k)), .int .i64 0]) ∧ Below W.heap.size W w' := fun W hW => safe_ok (hc20.below hW) k hlt
        generalize mk (st.safeAt k) = A at c1 c2
        go_wp2_with fail
        refine (cS _ hBr).mono ?_
        rintro e w21 ⟨rfl, hw⟩
        subst hw
        clear cS
        go_wp2_with fail
        refine c1.mono ?_
        rintro e w22 ⟨rfl, hb22⟩
        have hB22 := hBr.trans (hb22.mono hBr.size)
        clear c1 hb22 hBr
        go_wp2_with fail
        refine (c2 _ hB22).mono ?_
        rintro e w23 ⟨rfl, hb23⟩
        have hB23 := hB22.trans (hb23.mono hB22.size)
        clear c2 hb23 hB22
        go_wp2_with fail
        go_roundw
        case rel => exact ⟨k + 1, by omega, by go_num, hB23⟩
        case measure => simp [intOf]; omega
      · have hlt' : ¬ (k : Int) < (st.n : Int) := by omega
        have c1 := waiting_any (hd20.below hBr)
        have c2 : ∀ W, Below w20.heap.size w20 W → _ := fun W hW => waiting_any (hc20.below hW)
        rw [HK.out] at c1
        simp only [HK.out] at c2
        go_wp2_with fail
        refine (cS _ hBr).mono ?_
        rintro e w21 ⟨rfl, hw⟩
        subst hw
        clear cS
        go_wp2_with fail
        refine c1.mono ?_
        rintro e w22 ⟨v22, rfl, hr22, hn22, hb22⟩
        obtain rfl := hn22.2 trivial
        have hB22 := hBr.trans (hb22.mono hBr.size)
        clear c1 hb22 hBr hr22 hn22
        go_wp2_with fail
        refine (c2 _ hB22).mono ?_
        rintro e w23 ⟨v23, rfl, hr23, hn23, hb23⟩
        obtain rfl := hn23.2 trivial
        have hB23 := hB22.trans (hb23.mono hB22.size)
        clear c2 hb23 hB22 hr23 hn23
        go_wp2_with fail
        go_ret
        exact ⟨rfl, hB20.trans (hB23.mono hB20.size)⟩

theorem own : ownKnob Try.prog.godebug = none := by kernel_rfl
theorem laidOut : laidOutB Try.prog = true := by kernel_rfl

theorem contract (H : Type) (enc : TypeId × Value → H) (W : World) (base : Nat) (args : Array Value) (ds gs : List (DataW H)) (before : List MemPlace)
    (hval : ∀ (j : Nat) t v, Try.f7.params[j]? = some t → args[j]? = some v → Value.okWide Try.prog W .any base t v)
    (hW : DataW.Whole enc Try.prog Try.f7.params.toList Rows.devEitherSpec.vars false W args.toList ds gs before) :
    Calls Try.prog 7 args W fun e W' => ∃ v, e = .returned v ∧ Rows.devEitherSpec.post enc Try.prog Try.f7 false true false false W args v W' := by
  have hW' := hW
  obtain ⟨p, q, hA0, hV, rfl, hfz, hnd⟩ := hW
  have hA : DataW.TrodAll enc Try.prog W 0 (fun _ => true) true Try.f7.params.toList args.toList ds p := hA0
  rw [Try.params7] at hA hval
  obtain ⟨v0, vs0, d0, ds0, p0, q0, hargs, rfl, rfl, h0, r0⟩ := trodAll_cons hA
  obtain ⟨v1, vs1, d1, ds1, p1, q1, rfl, rfl, rfl, h1, r1⟩ := trodAll_cons r0
  obtain ⟨v2, vs2, d2, ds2, p2, q2, rfl, rfl, rfl, h2, r2⟩ := trodAll_cons r1
  obtain ⟨v3, vs3, d3, ds3, p3, q3, rfl, rfl, rfl, h3, r3⟩ := trodAll_cons r2
  obtain ⟨rfl, rfl, rfl⟩ := trodAll_nil r3
  obtain rfl : args = #[v0, v1, v2, v3] := by cases args; simp_all
  obtain ⟨rfl, rfl⟩ := trodVars_none hV
  have k0 := h0
  have lt0 : ∀ x ∈ p0, x.block < W.heap.size := by obtain ⟨m, hm⟩ := k0; exact DataW.trod_lt m _ _ _ hm
  have k1 := h1
  have lt1 : ∀ x ∈ p1, x.block < W.heap.size := by obtain ⟨m, hm⟩ := k1; exact DataW.trod_lt m _ _ _ hm
  have k2 := h2
  have lt2 : ∀ x ∈ p2, x.block < W.heap.size := by obtain ⟨m, hm⟩ := k2; exact DataW.trod_lt m _ _ _ hm
  have k3 := h3
  have lt3 : ∀ x ∈ p3, x.block < W.heap.size := by obtain ⟨m, hm⟩ := k3; exact DataW.trod_lt m _ _ _ hm
  obtain ⟨a0, rfl, rfl, rfl, w0⟩ := open_int Try.underlying3 (hval 0 3 v0 rfl rfl) h0
  obtain ⟨a1, len1, cap1, rfl⟩ := okWide_slice Try.underlying32 (hval 1 32 v1 rfl rfl)
  obtain ⟨fuel1, hf1⟩ := h1
  obtain ⟨l1, rd1, ln1, ok1⟩ := open_ops hf1
  obtain ⟨fuel2, hf2⟩ := h2
  obtain ⟨o2, hc2, ok2⟩ := open_op hf2
  obtain rfl := op_val hc2
  obtain ⟨fuel3, hf3⟩ := h3
  obtain ⟨o3, hc3, ok3⟩ := open_op hf3
  obtain rfl := op_val hc3
  clear hA0
  simp only [List.append_nil] at hW'
  refine (walk a0 (.slice a1 len1 cap1) l1 o2 o3 W (wf_bd w0).1 (wf_bd w0).2 rd1 ln1 ok1 ok2 ok3).mono fun e W' ⟨he, bel⟩ => ?_
  subst he
  exact ⟨_, rfl, _, _, _, [], _, [], hW', trodAll_mk1 (shut_bool Try.underlying4 _), (trodAll_cons_mk (Below.trod laidOut (by kernel_rfl) (of_decide_eq_true (by kernel_rfl)) k0 bel lt0) (trodAll_cons_mk (Below.trod laidOut (by kernel_rfl) (of_decide_eq_true (by kernel_rfl)) k1 bel lt1) (trodAll_cons_mk (Below.trod laidOut (by kernel_rfl) (of_decide_eq_true (by kernel_rfl)) k2 bel lt2) (trodAll_cons_mk (Below.trod laidOut (by kernel_rfl) (of_decide_eq_true (by kernel_rfl)) k3 bel lt3) trodAll_mk0)))), rfl, bel.frame _, fun h => by cases h⟩

set_option maxRecDepth 100000 in
theorem lifted (os : Os) (started : os.Started) (H : Type) (enc : TypeId × Value → H) :
    ReturnsInHanded {} Try.checked os 7 .any (Rows.devEitherSpec.pre6 enc Try.prog Try.f7 Rows.devEitherRow.domain false) (Rows.devEitherSpec.post enc Try.prog Try.f7 false true false false) := by
  refine returnsInHanded_of_change (C := Try.checked) own started (by kernel_rfl) Try.func7
    (ChangeSpec.witness6 (enc := enc) (C := Try.checked) false ⟨#[], #[.int .i64 0, .slice none 0 0, .agg #[.int .i64 0, .int .i64 0, .string .empty, .bool false], .agg #[.int .i64 0, .int .i64 0, .string .empty, .bool false]], []⟩ 8 (by kernel_rfl) (by kernel_rfl) (by kernel_rfl) (by kernel_rfl)) ?_
  intro W base args ds gs before hval hW _ _
  exact contract H enc W base args ds gs before hval hW

theorem holds : Rows.DevEitherSaid :=
  OpenClaim.holds_of_wide 7 Try.f7 rfl rfl rfl rfl rfl rfl rfl ⟨rfl, rfl, rfl, rfl, rfl⟩ rfl rfl rfl rfl rfl (by kernel_rfl) Try.func7 (by kernel_rfl)
    (of_decide_eq_true (by kernel_rfl)) (by unfold Func.isWrapper; first | (rw [if_pos (by decide +kernel)]; kernel_rfl) | (rw [if_neg (by decide +kernel)]; exact ⟨rfl, rfl⟩))
    (fun os started H enc _ => lifted os started H enc)
end Go.Proofs.Ythgdjgbikljbeaa.devEither
namespace Go.Proofs.Ythgdjgbikljbeaa
theorem devEither_holds : Rows.DevEitherSaid := devEither.holds
#print axioms devEither_holds
end Go.Proofs.Ythgdjgbikljbeaa
