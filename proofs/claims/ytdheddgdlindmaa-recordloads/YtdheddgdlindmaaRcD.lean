/-
  record's sheet: a branch, a commit, the next numbers, a client.
-/
import Derived.Test.YtdheddgdlindmaaRcC
namespace Go.Proofs.Ytdheddgdlindmaa
open Go.WideShapes Go.RowKit Go.ChangeShapes Go.ChangeAt Go.PlainAid

/-- A commit, a branch, a client. -/
structure CoD where
  n : Int
  ps : List Int
  d : List OpD
  o : List OpD
  c : Int
  s : Int
structure BrD where
  i : Int
  nm : ByteArray
  lg : List Int
structure CuD where
  c : Int
  b : Int
  s : Int
/-- Numbers that may be written. -/
def NumsOk (l : List Int) : Prop := l.length ≤ 1000000 ∧ ∀ n ∈ l, 0 ≤ n ∧ n ≤ 1125899906842624
/-- A branch's pair. -/
def brP (x : BrD) : PaD := ⟨mk [98, UInt8.ofNat (x.i.toNat / 256), UInt8.ofNat x.i.toNat], mk (nmB [x.i.toNat] ++ txsR [x.nm] ++ nmB (x.lg.length :: x.lg.map Int.toNat))⟩
theorem nmB_ne (n : Nat) (l : List Nat) : nmB (n :: l) ≠ [] := by
  intro e
  have h := congrArg List.length e
  have := numB_pos n
  rw [nmB, List.map_cons, List.flatten_cons, List.length_append, List.length_nil] at h
  omega
theorem lowB {B : Nat} {W W' : World} (h : Below W.heap.size W W') (hB : B ≤ W.heap.size) : Below B W W' := h.mono hB
theorem key3 {i : Int} (k : UInt8) (h0 : 0 ≤ i) (h1 : i ≤ 65535) : (bv [k, UInt8.ofNat (i.toNat / 256), UInt8.ofNat i.toNat]).toArray = #[.int .u8 (k.toNat : Int), .int .u8 (i / 256), .int .u8 (i % 256)] := by
  have e1 : (((UInt8.ofNat (i.toNat / 256)).toNat : Nat) : Int) = i / 256 := by rw [UInt8.toNat_ofNat']; omega
  have e2 : (((UInt8.ofNat i.toNat).toNat : Nat) : Int) = i % 256 := by rw [UInt8.toNat_ofNat']; omega
  simp only [bv, List.map_cons, List.map_nil, e1, e2]
theorem key2 {i : Int} (k : UInt8) (h0 : 0 ≤ i) (h1 : i ≤ 255) : (bv [k, UInt8.ofNat i.toNat]).toArray = #[.int .u8 (k.toNat : Int), .int .u8 i] := by
  have e2 : (((UInt8.ofNat i.toNat).toNat : Nat) : Int) = i := by rw [UInt8.toNat_ofNat']; omega
  simp only [bv, List.map_cons, List.map_nil, e2]
theorem app_ne {a b : List UInt8} (h : a ≠ []) : a ++ b ≠ [] := fun e => h (List.append_eq_nil_iff.1 e).1
set_option maxRecDepth 20000 in
set_option maxHeartbeats 1500000 in
theorem branchS_any (B b : Nat) (D : List PaD) (x : BrD) (lv : Value) (w : World) (h : IsSh B b [] D w) (hr : ∀ W', K3 w W' → Below B w W' → RdI W' lv x.lg) (hi0 : 1 ≤ x.i) (hi1 : x.i ≤ 65535) (hnm : x.nm.size ≤ maxLen) (hlg : NumsOk x.lg) (hD : D.length ≤ 1000000) :
    Calls Try.prog 20 #[.pointer (some ⟨b, 0, none⟩), .agg #[.int .i64 x.i, .string x.nm, lv]] w fun e w' => e = .returned (.tuple #[]) ∧ IsSh B b [] (D ++ [brP x]) w' ∧ Below B w w' ∧ K3 w w' := by
  obtain ⟨ao, cp, rfl⟩ := rdi_len (hr w (K3.refl w) (Below.refl _ _))
  have hBw := h.lt
  have hal := alloc_bR w (.cells #[.int .i64 x.i, .string x.nm, .slice ao x.lg.length cp] 50)
  have hx := heap_alloc_new w (.cells #[.int .i64 x.i, .string x.nm, .slice ao x.lg.length cp] 50)
  generalize hw1 : w.alloc (.cells #[.int .i64 x.i, .string x.nm, .slice ao x.lg.length cp] 50) = w1 at *
  have hI1 := h.below hal
  have hB1 : Below B w w1 := hal.mono (by omega)
  have hK1 := k3_below hal
  have hx1 : ∀ W', K3 w1 W' → W'.heap[w.heap.size]? = some (.cells #[.int .i64 x.i, .string x.nm, .slice ao x.lg.length cp] 50) := fun W' hk => hk.blk _ _ _ hx (by decide) (by decide) (by decide)
  have hcell : ∀ W', K3 w1 W' → W'.cell? ⟨w.heap.size, 0, none⟩ = some (.int .i64 x.i) ∧ W'.cell? ⟨w.heap.size, 1, none⟩ = some (.string x.nm) ∧ W'.cell? ⟨w.heap.size, 2, none⟩ = some (.slice ao x.lg.length cp) := fun W' hk => by
    have q := fun j => cell_of_row W' w.heap.size j _ _ (0, 0) (hx1 W' hk)
    exact ⟨q 0, q 1, q 2⟩
  -- the first number
  have hal2 := alloc_bR w1 (.cells #[.int .i64 x.i] 3)
  have c1 := numsS_any B b [] D (.slice (some ⟨w1.heap.size, 0, none⟩) 1 1) [x.i] (w1.alloc (.cells #[.int .i64 x.i] 3)) (hI1.below hal2) (fun W' hk _ => k3_vint (l := [x.i]) hk) (by simp) (by simp; omega) (by simp)
  have hs1 := hal.size
  have hB2 := hB1.trans (lowB hal2 (B := B) (by omega))
  have hK2 := k3_below hal2
  simp only [List.map_cons, List.map_nil, List.nil_append] at c1
  obtain ⟨x0, x1, x2⟩ := hcell w1 (K3.refl _)
  clear hx hal hal2 h hI1
  go_enter Try.func20, Try.ntmps20
  go_wp2_with fail
  refine c1.mono ?_
  rintro e w3 ⟨rfl, hI3, hb3, hk3⟩
  have hB3 := hB2.trans hb3
  have hK3 := hK2.trans hk3
  clear c1 hb3 hk3 hB2 hK2 x0 x1 x2
  obtain ⟨x0, x1, x2⟩ := hcell w3 hK3
  have hs3 := hI3.lt
  have hal4 := alloc_bR w3 (.cells #[.string x.nm] 9)
  have c2 := textsS_any B b _ D (.slice (some ⟨w3.heap.size, 0, none⟩) 1 1) [x.nm] (w3.alloc (.cells #[.string x.nm] 9)) (hI3.below hal4) (fun W' hk _ => k3_vstr (l := [x.nm]) hk) (by simp) (by simpa using hnm) (by have := nmB_len [x.i.toNat]; simp at this; omega)
  have hB4 := hB3.trans (lowB hal4 (B := B) (by omega))
  have hK4 := hK3.trans (k3_below hal4)
  clear hI3 hB3 hK3 hal4
  go_wp2_with fail
  refine c2.mono ?_
  rintro e w5 ⟨rfl, hI5, hb5, hk5⟩
  have hB5 := hB4.trans hb5
  have hK5 := hK4.trans hk5
  clear c2 hb5 hk5 hB4 hK4 x0 x1 x2
  obtain ⟨x0, x1, x2⟩ := hcell w5 hK5
  have c3 := countedS_any B b _ D (.slice ao x.lg.length cp) x.lg w5 hI5 (fun W' hk hb => hr W' ((hK1.trans hK5).trans hk) (hB5.trans hb)) hlg.1 hlg.2 (by have := nmB_len [x.i.toNat]; have := txsR_len [x.nm]; simp at *; omega)
  clear hI5
  go_wp2_with fail
  refine c3.mono ?_
  rintro e w6 ⟨rfl, hI6, hb6, hk6⟩
  have hB6 := hB5.trans hb6
  have hK6 := hK5.trans hk6
  clear c3 hb6 hk6 hB5 hK5 x0 x1 x2
  obtain ⟨x0, x1, x2⟩ := hcell w6 hK6
  clear hr hcell hx1
  have c4 := endS_any B b _ [98, UInt8.ofNat (x.i.toNat / 256), UInt8.ofNat x.i.toNat] D w6 hI6 (app_ne (app_ne (nmB_ne _ _))) hD
  rw [key3 98 (by omega) hi1] at c4
  go_wp2_with fail
  refine c4.mono ?_
  rintro e w7 ⟨rfl, hI7, hb7, hk7⟩
  go_wp2_with fail
  go_end0
  exact ⟨rfl, hI7, hB6.trans hb7, (hK1.trans hK6).trans hk7⟩
/-- A client's pair. -/
def cuP (x : CuD) : PaD := ⟨mk [117, UInt8.ofNat x.c.toNat], mk (nmB [x.c.toNat, x.b.toNat, x.s.toNat])⟩
set_option maxRecDepth 20000 in
set_option maxHeartbeats 1500000 in
theorem clientS_any (B b : Nat) (D : List PaD) (x : CuD) (w : World) (h : IsSh B b [] D w) (hc0 : 1 ≤ x.c) (hc1 : x.c ≤ 8) (hb0 : 0 ≤ x.b) (hb1 : x.b ≤ 1000000) (hs0 : 0 ≤ x.s) (hs1 : x.s ≤ 100000) (hD : D.length ≤ 1000000) :
    Calls Try.prog 23 #[.pointer (some ⟨b, 0, none⟩), .agg #[.int .i64 x.c, .int .i64 x.b, .int .i64 x.s]] w fun e w' => e = .returned (.tuple #[]) ∧ IsSh B b [] (D ++ [cuP x]) w' ∧ Below B w w' ∧ K3 w w' := by
  have hBw := h.lt
  have hal := alloc_bR w (.cells #[.int .i64 x.c, .int .i64 x.b, .int .i64 x.s] 61)
  have hx := heap_alloc_new w (.cells #[.int .i64 x.c, .int .i64 x.b, .int .i64 x.s] 61)
  generalize hw1 : w.alloc (.cells #[.int .i64 x.c, .int .i64 x.b, .int .i64 x.s] 61) = w1 at *
  have hI1 := h.below hal
  have hB1 : Below B w w1 := hal.mono (by omega)
  have hK1 := k3_below hal
  have hcell : ∀ W', K3 w1 W' → W'.cell? ⟨w.heap.size, 0, none⟩ = some (.int .i64 x.c) ∧ W'.cell? ⟨w.heap.size, 1, none⟩ = some (.int .i64 x.b) ∧ W'.cell? ⟨w.heap.size, 2, none⟩ = some (.int .i64 x.s) := fun W' hk => by
    have q := fun j => cell_of_row W' w.heap.size j _ _ (0, 0) (hk.blk _ _ _ hx (by decide) (by decide) (by decide))
    exact ⟨q 0, q 1, q 2⟩
  have hal2 := alloc_bR w1 (.cells #[.int .i64 x.c, .int .i64 x.b, .int .i64 x.s] 3)
  have c1 := numsS_any B b [] D (.slice (some ⟨w1.heap.size, 0, none⟩) 3 3) [x.c, x.b, x.s] (w1.alloc (.cells #[.int .i64 x.c, .int .i64 x.b, .int .i64 x.s] 3)) (hI1.below hal2) (fun W' hk _ => k3_vint (l := [x.c, x.b, x.s]) hk) (by simp) (by simp; omega) (by simp)
  have hs1 := hal.size
  have hB2 := hB1.trans (lowB hal2 (B := B) (by omega))
  have hK2 := k3_below hal2
  simp only [List.map_cons, List.map_nil, List.nil_append] at c1
  obtain ⟨x0, x1, x2⟩ := hcell w1 (K3.refl _)
  clear hx hal hal2 h hI1
  go_enter Try.func23, Try.ntmps23
  go_wp2_with fail
  refine c1.mono ?_
  rintro e w3 ⟨rfl, hI3, hb3, hk3⟩
  have hB3 := hB2.trans hb3
  have hK3 := hK2.trans hk3
  clear c1 hb3 hk3 hB2 hK2 x0 x1 x2
  obtain ⟨x0, x1, x2⟩ := hcell w3 hK3
  clear hcell
  have c4 := endS_any B b _ [117, UInt8.ofNat x.c.toNat] D w3 hI3 (nmB_ne _ _) hD
  rw [key2 117 (by omega) (by omega)] at c4
  go_wp2_with fail
  refine c4.mono ?_
  rintro e w7 ⟨rfl, hI7, hb7, hk7⟩
  go_wp2_with fail
  go_end0
  exact ⟨rfl, hI7, hB3.trans hb7, (hK1.trans hK3).trans hk7⟩
/-- The next numbers' pair. -/
def nxP (nc nb : Int) : PaD := ⟨mk [110], mk (nmB [nc.toNat, nb.toNat])⟩
set_option maxRecDepth 20000 in
set_option maxHeartbeats 1500000 in
theorem nextS_any (B b : Nat) (D : List PaD) (nc nb : Int) (v1 v2 v3 : Value) (w : World) (h : IsSh B b [] D w) (hc0 : 0 ≤ nc) (hc1 : nc ≤ 1000000) (hb0 : 0 ≤ nb) (hb1 : nb ≤ 1000000) (_hv1 : v1.oneCell' = true) (_hv2 : v2.oneCell' = true) (_hv3 : v3.oneCell' = true) (hD : D.length ≤ 1000000) :
    Calls Try.prog 22 #[.pointer (some ⟨b, 0, none⟩), .agg #[.int .i64 nc, .int .i64 nb, v1, v2, v3]] w fun e w' => e = .returned (.tuple #[]) ∧ IsSh B b [] (D ++ [nxP nc nb]) w' ∧ Below B w w' ∧ K3 w w' := by
  have hBw := h.lt
  have hal := alloc_bR w (.cells #[.int .i64 nc, .int .i64 nb, v1, v2, v3] 26)
  have hx := heap_alloc_new w (.cells #[.int .i64 nc, .int .i64 nb, v1, v2, v3] 26)
  generalize hw1 : w.alloc (.cells #[.int .i64 nc, .int .i64 nb, v1, v2, v3] 26) = w1 at *
  have hI1 := h.below hal
  have hB1 : Below B w w1 := hal.mono (by omega)
  have hK1 := k3_below hal
  have q := fun j => cell_of_row w1 w.heap.size j _ _ (0, 0) hx
  have x0 : w1.cell? ⟨w.heap.size, 0, none⟩ = some (.int .i64 nc) := q 0
  have x1 : w1.cell? ⟨w.heap.size, 1, none⟩ = some (.int .i64 nb) := q 1
  have hal2 := alloc_bR w1 (.cells #[.int .i64 nc, .int .i64 nb] 3)
  have c1 := numsS_any B b [] D (.slice (some ⟨w1.heap.size, 0, none⟩) 2 2) [nc, nb] (w1.alloc (.cells #[.int .i64 nc, .int .i64 nb] 3)) (hI1.below hal2) (fun W' hk _ => k3_vint (l := [nc, nb]) hk) (by simp) (by simp; omega) (by simp)
  have hs1 := hal.size
  have hB2 := hB1.trans (lowB hal2 (B := B) (by omega))
  have hK2 := hK1.trans (k3_below hal2)
  simp only [List.map_cons, List.map_nil, List.nil_append] at c1
  clear hx hal hal2 h hI1 q
  go_enter Try.func22, Try.ntmps22
  go_wp2_with fail
  refine c1.mono ?_
  rintro e w3 ⟨rfl, hI3, hb3, hk3⟩
  have c4 := endS_any B b _ [110] D w3 hI3 (nmB_ne _ _) hD
  have e4 : (bv [110]).toArray = #[Value.int .u8 110] := rfl
  rw [e4] at c4
  clear c1 x0 x1 e4
  go_wp2_with fail
  refine c4.mono ?_
  rintro e w7 ⟨rfl, hI7, hb7, hk7⟩
  go_wp2_with fail
  go_end0
  exact ⟨rfl, hI7, (hB2.trans hb3).trans hb7, (hK2.trans hk3).trans hk7⟩
/-- A commit's pair. -/
def coP (x : CoD) : PaD := ⟨mk [99, UInt8.ofNat (x.n.toNat / 256), UInt8.ofNat x.n.toNat], mk (nmB [x.n.toNat] ++ nmB (x.ps.length :: x.ps.map Int.toNat) ++ txsR (dfsR [x.d, x.o]) ++ nmB [x.c.toNat, x.s.toNat])⟩
theorem rdds_two {W : World} {g : Nat} {u1 u2 : Value} {d1 d2 : List OpD} (h : W.heap[g]? = some (.cells #[u1, u2] 46)) (h1 : RdD W u1 d1) (h2 : RdD W u2 d2) : RdDs W (.slice (some ⟨g, 0, none⟩) 2 2) [d1, d2] := by
  refine ⟨_, _, rfl, fun i d hi => ?_⟩
  have q := fun j => cell_of_row W g j _ _ (0, 0) h
  match i, hi with
  | 0, hi => simp at hi; subst hi; exact ⟨g, 0, u1, rfl, heap_lt h, q 0, h1⟩
  | 1, hi => simp at hi; subst hi; exact ⟨g, 0, u2, rfl, heap_lt h, q 1, h2⟩
  | i + 2, hi => simp at hi
set_option maxRecDepth 20000 in
set_option maxHeartbeats 2000000 in
theorem commitS_any (B b : Nat) (D : List PaD) (x : CoD) (pv dv ov : Value) (w : World) (h : IsSh B b [] D w) (hr : ∀ W', K3 w W' → Below B w W' → RdI W' pv x.ps) (hrd : ∀ W', K3 w W' → Below B w W' → RdD W' dv x.d) (hro : ∀ W', K3 w W' → Below B w W' → RdD W' ov x.o) (hn0 : 1 ≤ x.n) (hn1 : x.n ≤ 65535) (hps : NumsOk x.ps) (hdl : x.d.length ≤ maxLen) (hdi : ∀ o ∈ x.d, o.In) (hol : x.o.length ≤ maxLen) (hoi : ∀ o ∈ x.o, o.In) (hc0 : 0 ≤ x.c) (hc1 : x.c ≤ 8) (hs0 : 0 ≤ x.s) (hs1 : x.s ≤ 100000) (hD : D.length ≤ 1000000) :
    Calls Try.prog 21 #[.pointer (some ⟨b, 0, none⟩), .agg #[.int .i64 x.n, pv, dv, ov, .int .i64 x.c, .int .i64 x.s]] w fun e w' => e = .returned (.tuple #[]) ∧ IsSh B b [] (D ++ [coP x]) w' ∧ Below B w w' ∧ K3 w w' := by
  obtain ⟨ao, cp, rfl⟩ := rdi_len (hr w (K3.refl w) (Below.refl _ _))
  obtain ⟨ad, kd, ed, -⟩ := hrd w (K3.refl w) (Below.refl _ _)
  subst ed
  obtain ⟨ae, ke, ee, -⟩ := hro w (K3.refl w) (Below.refl _ _)
  subst ee
  have hBw := h.lt
  have hal := alloc_bR w (.cells #[.int .i64 x.n, .slice ao x.ps.length cp, .slice ad x.d.length kd, .slice ae x.o.length ke, .int .i64 x.c, .int .i64 x.s] 48)
  have hx := heap_alloc_new w (.cells #[.int .i64 x.n, .slice ao x.ps.length cp, .slice ad x.d.length kd, .slice ae x.o.length ke, .int .i64 x.c, .int .i64 x.s] 48)
  generalize hw1 : w.alloc (.cells #[.int .i64 x.n, .slice ao x.ps.length cp, .slice ad x.d.length kd, .slice ae x.o.length ke, .int .i64 x.c, .int .i64 x.s] 48) = w1 at *
  have hI1 := h.below hal
  have hB1 : Below B w w1 := hal.mono (by omega)
  have hK1 := k3_below hal
  have hcell : ∀ W', K3 w1 W' → W'.cell? ⟨w.heap.size, 0, none⟩ = some (.int .i64 x.n) ∧ W'.cell? ⟨w.heap.size, 1, none⟩ = some (.slice ao x.ps.length cp) ∧ W'.cell? ⟨w.heap.size, 2, none⟩ = some (.slice ad x.d.length kd) ∧ W'.cell? ⟨w.heap.size, 3, none⟩ = some (.slice ae x.o.length ke) ∧ W'.cell? ⟨w.heap.size, 4, none⟩ = some (.int .i64 x.c) ∧ W'.cell? ⟨w.heap.size, 5, none⟩ = some (.int .i64 x.s) := fun W' hk => by
    have q := fun j => cell_of_row W' w.heap.size j _ _ (0, 0) (hk.blk _ _ _ hx (by decide) (by decide) (by decide))
    exact ⟨q 0, q 1, q 2, q 3, q 4, q 5⟩
  have hal2 := alloc_bR w1 (.cells #[.int .i64 x.n] 3)
  have c1 := numsS_any B b [] D (.slice (some ⟨w1.heap.size, 0, none⟩) 1 1) [x.n] (w1.alloc (.cells #[.int .i64 x.n] 3)) (hI1.below hal2) (fun W' hk _ => k3_vint (l := [x.n]) hk) (by simp) (by simp; omega) (by simp)
  have hs1' := hal.size
  have hB2 := hB1.trans (lowB hal2 (B := B) (by omega))
  have hK2 := k3_below hal2
  simp only [List.map_cons, List.map_nil, List.nil_append] at c1
  have l1 := nmB_len [x.n.toNat]
  have l2 := nmB_len (x.ps.length :: x.ps.map Int.toNat)
  have l3 := txsR_len (dfsR [x.d, x.o])
  simp only [List.length_cons, List.length_nil, List.length_map, dfsR, List.map_cons, List.map_nil] at l1 l2 l3
  have hpl := hps.1
  obtain ⟨x0, x1, x2, x3, x4, x5⟩ := hcell w1 (K3.refl _)
  clear hx hal hal2 h hI1
  go_enter Try.func21, Try.ntmps21
  go_wp2_with fail
  refine c1.mono ?_
  rintro e w3 ⟨rfl, hI3, hb3, hk3⟩
  have hB3 := hB2.trans hb3
  have hK3 := hK2.trans hk3
  clear c1 hb3 hk3 hB2 hK2 x0 x1 x2 x3 x4 x5
  obtain ⟨x0, x1, x2, x3, x4, x5⟩ := hcell w3 hK3
  have c3 := countedS_any B b _ D (.slice ao x.ps.length cp) x.ps w3 hI3 (fun W' hk hb => hr W' ((hK1.trans hK3).trans hk) (hB3.trans hb)) hps.1 hps.2 (by omega)
  clear hI3
  go_wp2_with fail
  refine c3.mono ?_
  rintro e w5 ⟨rfl, hI5, hb5, hk5⟩
  have hB5 := hB3.trans hb5
  have hK5 := hK3.trans hk5
  clear c3 hb5 hk5 hB3 hK3 x0 x1 x2 x3 x4 x5
  obtain ⟨x0, x1, x2, x3, x4, x5⟩ := hcell w5 hK5
  have hs5 := hI5.lt
  have hal6 := alloc_bR w5 (.cells #[.slice ad x.d.length kd, .slice ae x.o.length ke] 46)
  have hnew6 := heap_alloc_new w5 (.cells #[.slice ad x.d.length kd, .slice ae x.o.length ke] 46)
  have hB6 := hB5.trans (lowB hal6 (B := B) (by omega))
  have hK6 := hK5.trans (k3_below hal6)
  have c4 := deltasS_any B b _ D (.slice (some ⟨w5.heap.size, 0, none⟩) 2 2) [x.d, x.o] (w5.alloc (.cells #[.slice ad x.d.length kd, .slice ae x.o.length ke] 46)) (hI5.below hal6) (fun W' hk hb => rdds_two (hk.blk _ _ _ hnew6 (by decide) (by decide) (by decide)) (hrd W' ((hK1.trans hK6).trans hk) (hB6.trans hb)) (hro W' ((hK1.trans hK6).trans hk) (hB6.trans hb))) (by simp) (fun d hd => by
    simp at hd
    rcases hd with rfl | rfl
    · exact ⟨hdl, hdi⟩
    · exact ⟨hol, hoi⟩) (by rw [List.length_append]; omega)
  clear hI5 hal6 hnew6
  go_wp2_with fail
  refine c4.mono ?_
  rintro e w7 ⟨rfl, hI7, hb7, hk7⟩
  have hB7 := hB6.trans hb7
  have hK7 := hK6.trans hk7
  clear c4 hb7 hk7 hB6 hK6 x0 x1 x2 x3 x4 x5 hB5 hK5
  obtain ⟨x0, x1, x2, x3, x4, x5⟩ := hcell w7 hK7
  have hs7 := hI7.lt
  have hal8 := alloc_bR w7 (.cells #[.int .i64 x.c, .int .i64 x.s] 3)
  have hB8 := hB7.trans (lowB hal8 (B := B) (by omega))
  have hK8 := hK7.trans (k3_below hal8)
  have c5 := numsS_any B b _ D (.slice (some ⟨w7.heap.size, 0, none⟩) 2 2) [x.c, x.s] (w7.alloc (.cells #[.int .i64 x.c, .int .i64 x.s] 3)) (hI7.below hal8) (fun W' hk _ => k3_vint (l := [x.c, x.s]) hk) (by simp) (by simp; omega) (by rw [List.length_append, List.length_append]; unfold dfsR; simp only [List.map_cons, List.map_nil]; omega)
  simp only [List.map_cons, List.map_nil] at c5
  clear hI7 hal8 hB7 hK7
  go_wp2_with fail
  refine c5.mono ?_
  rintro e w9 ⟨rfl, hI9, hb9, hk9⟩
  have hB9 := hB8.trans hb9
  have hK9 := hK8.trans hk9
  clear c5 hb9 hk9 hB8 hK8 x0 x1 x2 x3 x4 x5
  obtain ⟨x0, x1, x2, x3, x4, x5⟩ := hcell w9 hK9
  clear hr hcell hrd hro
  have c6 := endS_any B b _ [99, UInt8.ofNat (x.n.toNat / 256), UInt8.ofNat x.n.toNat] D w9 hI9 (app_ne (app_ne (app_ne (nmB_ne _ _)))) hD
  rw [key3 99 (by omega) hn1] at c6
  go_wp2_with fail
  refine c6.mono ?_
  rintro e w11 ⟨rfl, hI11, hb11, hk11⟩
  go_wp2_with fail
  go_end0
  exact ⟨rfl, hI11, hB9.trans hb11, (hK1.trans hK9).trans hk11⟩
end Go.Proofs.Ytdheddgdlindmaa
