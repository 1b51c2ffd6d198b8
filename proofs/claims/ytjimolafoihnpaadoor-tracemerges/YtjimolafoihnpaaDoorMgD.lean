/-
  The contracts of AppendRune, WriteRune (packages utf8, strings) and textOf.
-/
import Derived.Test.YtjimolafoihnpaaDoorMgT
import Derived.Test.YtjimolafoihnpaaDoorLayR
import Derived.Shelf.Utf8.AppendRunePlain
import Derived.Lib.Bytealg
namespace Go.Proofs.YtjimolafoihnpaaDoor
open Go.ChangeShapes Go.WideShapes Go.ChangeAt Go.RowKit Go.PlainAid

theorem u8_of {n : Nat} (h : n < 256) : ((UInt8.ofNat n).toNat : Int) = (n : Int) := by
  have : (UInt8.ofNat n).toNat = n := by simp [UInt8.toNat_ofNat']; omega
  rw [this]
/-- A code point's bytes, as the library has them. -/
theorem rune_bytes {z : Int} (h : szI z ≠ 0) : Lib.runeCells z = Lib.byteCells (ptB z.toNat) := by
  have hz := szI_nonneg h
  obtain ⟨n, rfl⟩ := Int.eq_ofNat_of_zero_le hz.1
  simp only [Int.toNat_natCast]
  unfold Lib.runeCells Lib.byteCells
  by_cases c1 : n < 128
  · rw [Lib.encodeRuneZ_one (by omega) (by omega), ptB1 c1]
    simp only [List.map_cons, List.map_nil, u8_of (n := n) (by omega)]
  · by_cases c2 : n < 2048
    · rw [Lib.encodeRuneZ_two (by omega) (by omega), ptB2 (by omega) c2]
      simp only [List.map_cons, List.map_nil, u8_of (n := 192 + n / 64) (by omega), u8_of (n := 128 + n % 64) (by omega)]
      simp
    · by_cases c3 : n < 65536
      · rw [Lib.encodeRuneZ_three (by omega), ptB3 (by omega) c3]
        simp only [List.map_cons, List.map_nil, u8_of (n := 224 + n / 4096) (by omega), u8_of (n := 128 + n / 64 % 64) (by omega), u8_of (n := 128 + n % 64) (by omega)]
        simp
      · rw [Lib.encodeRuneZ_four (by omega) (by omega), ptB4 (by omega)]
        simp only [List.map_cons, List.map_nil, u8_of (n := 240 + n / 262144) (by omega), u8_of (n := 128 + n / 4096 % 64) (by omega), u8_of (n := 128 + n / 64 % 64) (by omega), u8_of (n := 128 + n % 64) (by omega)]
        simp
theorem appendRune_any (B : Nat) (v : Value) (n : Nat) (xs : List Value) (z : Int) (w : World) (hz : szI z ≠ 0) (hown : w.ownsRow B 5 1 v n xs) (hlen : n + 4 ≤ 140737488355328) (hBw : B ≤ w.heap.size) :
    Calls Tryd.prog 97 #[v, .int .i32 z] w fun e w' => ∃ v', e = .returned v' ∧ w'.ownsRow B 5 1 v' (n + (ptB z.toNat).length) (xs ++ Lib.byteCells (ptB z.toNat)) ∧ ∃ o, (w.alloc o).grownBy w' v.ownBlock := by
  have hb := szI_nonneg hz
  have := Any.utf8_AppendRune_plain Tryd.laysAR Tryd.info5 B v n xs z (by omega) (by omega) w hown hlen hBw
  rw [rune_bytes hz, Lib.byteCells_length] at this
  exact this

set_option maxRecDepth 20000 in
set_option maxHeartbeats 1000000 in
theorem writeRune_any (B b : Nat) (bs : List Value) (z : Int) (w : World) (hz : szI z ≠ 0) (h : Bd B b bs w) (hl : bs.length + 4 ≤ 140737488355328) (hBw : B ≤ w.heap.size) :
    Calls Tryd.prog 88 #[.pointer (some ⟨b, 0, none⟩), .int .i32 z] w fun e w' => (∃ x, e = .returned x) ∧ BdAt B b (bs ++ Lib.byteCells (ptB z.toNat)) w' ∧ Below B w w' := by
  have hc := copyCheck_any B b bs w h
  have hpl := ptB_len z.toNat
  clear h
  go_enter Tryd.func88, Tryd.ntmps88
  go_wp2_with (first | (go_at_call 91; refine hc.mono ?_; rintro e w1 ⟨rfl, h1, hb1⟩; obtain ⟨hB, v, hbk, hown, hne⟩ := h1; have hcA := appendRune_any B v bs.length bs z w1 hz hown (by omega) (by have := hb1.size; omega); obtain ⟨a1, k1, rfl⟩ := own_form hown; have c1 := cell_of_row _ _ 1 _ _ (0, 0) hbk; simp at c1; have hs1 := hb1.size) | (go_at_call 97; refine hcA.mono ?_; rintro e w2 ⟨v2, rfl, ho2, o2, hg2⟩; obtain ⟨a2, k2, rfl⟩ := own_form ho2; have hbk2 : w2.heap[b]? = some (.cells #[.pointer (some ⟨b, 0, none⟩), .slice a1 bs.length k1] 157) := (hg2.block b (by have := heap_lt hbk; simp; omega) (fun e => hne e.symm)).trans ((heap_alloc_old w1 o2 (heap_lt hbk)).trans hbk); have c2 := cell_of_row _ _ 1 _ _ (0, 0) hbk2; simp at c2; have f2 := frz hbk2 1; have hbl := (hb1.alloc (by omega) o2).grown hg2 (by simp; omega) (fun k hk => (hown.lt k hk).1)))
  go_ret2
  exact ⟨⟨_, rfl⟩, Lib.BuilderAt.put hB hbk2 (by rw [List.length_append, Lib.byteCells_length]; exact ho2) (by decide), hbl.setCell (p := ⟨b, 1, none⟩) hB _⟩

/-- The bytes of atoms. -/
def txU (A : List Atm) : List UInt8 := enc (A.map Atm.z)
theorem txU_take {A : List Atm} {k : Nat} (hk : k < A.length) : txU (A.take (k + 1)) = txU (A.take k) ++ ptB (A[k].z).toNat := by
  unfold txU
  rw [List.map_take, List.map_take, enc_succ _ _ (by simpa using hk)]
  simp [hk]
theorem txU_len (A : List Atm) : (txU A).length ≤ 4 * A.length := by
  have := enc_take_len (A.map Atm.z) A.length
  rw [List.take_of_length_le (by simp)] at this
  simpa [txU] using this

set_option maxRecDepth 20000 in
set_option maxHeartbeats 1000000 in
theorem textOf_any (v : Value) (A : List Atm) (w : World) (hr : RdK w v A) (hz : ∀ x ∈ A, szI x.z ≠ 0) (hl : A.length ≤ 1000000) :
    Calls Tryd.prog 68 #[v] w fun e w' => e = .returned (.string (mk (txU A))) ∧ Below w.heap.size w w' := by
  obtain ⟨ao, cp, hv, -⟩ := id hr
  subst hv
  have hb0 : Bd w.heap.size w.heap.size [] (w.alloc (.cells #[.pointer none, .slice none 0 0] 157)) := Lib.fresh_isBuilder _ _ w
  have hB0 : Below w.heap.size w (w.alloc (.cells #[.pointer none, .slice none 0 0] 157)) := (Below.refl _ w).alloc (Nat.le_refl _) _
  go_enter Tryd.func68, Tryd.ntmps68
  go_wp2_with fail
  generalize w.alloc _ = w0 at *
  go_loopw [8] (fun i wr => ∃ (k : Nat), k ≤ A.length ∧ i = .int .i64 (k : Int) ∧ Bd w.heap.size w.heap.size (Lib.byteCells (txU (A.take k))) wr ∧ Below w.heap.size w wr) (fun i _ => A.length - (Go.RowKit.intOf i).toNat)
  case atStart => exact ⟨0, Nat.zero_le _, rfl, hb0, hB0⟩
  case round =>
    obtain ⟨k, hk, rfl, hB, hBr⟩ := hrel
    clear hb0 hB0
    by_cases hlt : k < A.length
    · have hlt' : (k : Int) < (A.length : Int) := by omega
      obtain ⟨bb, off, rfl, -, e2, e3, e4, e5⟩ := rdk_at (hr.below hBr) (i := k) (x := A[k]) (by simp [hlt])
      have htk := txU_take hlt
      have hle := txU_len (A.take k)
      have hzk := hz A[k] (by simp)
      rw [List.length_take] at hle
      generalize A[k] = x at *
      have hBa := hB.alloc (.cells #[.int .i64 x.c, .int .i64 x.q, .int .i64 x.n, .int .i32 x.z] 136)
      have hBra := hBr.alloc hBr.size (.cells #[.int .i64 x.c, .int .i64 x.q, .int .i64 x.n, .int .i32 x.z] 136)
      have hw := writeRune_any w.heap.size w.heap.size _ x.z _ hzk hBa (by rw [Lib.byteCells_length]; omega) hBra.size
      rw [show Lib.byteCells (txU (A.take k)) ++ Lib.byteCells (ptB x.z.toNat) = Lib.byteCells (txU (A.take (k + 1))) by rw [htk]; simp [Lib.byteCells]] at hw
      clear hB hr hz htk
      have hk1 : (k : Int) + 1 ≤ 9223372036854775807 := by omega
      go_wp2_with (go_at_call 88; refine hw.mono ?_; rintro e w1 ⟨⟨xx, rfl⟩, hB2, hb2⟩)
      refine ⟨⟨k + 1, by omega, by simp, .inr hB2, hBra.trans hb2⟩, ?_⟩
      simp [Go.RowKit.intOf]
      omega
    · obtain rfl : k = A.length := by omega
      rw [List.take_length] at hB
      have hs := string_any w.heap.size w.heap.size _ wr hB hBr.size
      clear hB hr hz
      go_wp2_with (go_at_call 76; refine hs.mono ?_; rintro e w1 ⟨rfl, hb1⟩)
      go_ret
      exact ⟨rfl, hBr.trans hb1⟩
end Go.Proofs.YtjimolafoihnpaaDoor

/-
  Comparing; the contracts of those and gaps, for any closure that tells atoms apart.
-/
namespace Go.Proofs.YtjimolafoihnpaaDoor
open Go.ChangeShapes Go.WideShapes Go.ChangeAt Go.RowKit Go.PlainAid

set_option maxRecDepth 100000 in
theorem cmpString_any (a b : ByteArray) (w : World) : Calls Tryd.prog 87 #[.string a, .string b] w fun e w' => e = .returned (.int .i64 (Lib.compareBytes a.data.toList b.data.toList)) ∧ w = w' := by
  go_enter Tryd.func87, Tryd.ntmps87
  go_wp2
  rw [run_callFunc_extern Tryd.func96 (by kernel_rfl) (by kernel_rfl) (by kernel_rfl) (e := Extern.BytealgCompare.compare) (by kernel_rfl), Lib.run_compareString]
  simp only [Result.andThen]
  rw [Oper.upon_value]
  go_wp2
  go_ret
  exact ⟨rfl, rfl⟩
theorem strCompare_any (a b : ByteArray) (w : World) : Calls Tryd.prog 67 #[.string a, .string b] w fun e w' => e = .returned (.int .i64 (Lib.compareBytes a.data.toList b.data.toList)) ∧ Below w.heap.size w w' := by
  have hc := cmpString_any a b
  generalize Lib.compareBytes a.data.toList b.data.toList = r at *
  go_enter Tryd.func67, Tryd.ntmps67
  go_wp2_with (first | (go_at_call 87; refine (hc _).mono ?_; rintro e w1 ⟨rfl, rfl⟩) | go_in)
  go_ret
  exact ⟨rfl, Below.refl _ _⟩
/-- How two numbers stand. -/
def cmpI (a b : Int) : Int := if a < b then -1 else if b < a then 1 else 0
theorem isNaN_any (a : Int) (w : World) : Calls Tryd.prog 69 #[.int .i64 a] w fun e w' => e = .returned (.bool false) ∧ w = w' := by
  have h : (a != a) = false := by simp
  go_enter Tryd.func69, Tryd.ntmps69
  go_wp2_with fail
  go_ret
  exact ⟨rfl, rfl⟩
set_option maxHeartbeats 1000000 in
theorem cmpCompare_any (a b : Int) (w : World) : Calls Tryd.prog 41 #[.int .i64 a, .int .i64 b] w fun e w' => e = .returned (.int .i64 (cmpI a b)) ∧ Below w.heap.size w w' := by
  have ha := isNaN_any a
  have hb := isNaN_any b
  by_cases h1 : a < b
  · have H : Hid (cmpI a b = -1) := by show _ = _; unfold cmpI; rw [if_pos h1]
    go_enter Tryd.func41, Tryd.ntmps41
    go_wp2_with fail
    refine (ha _).mono ?_
    rintro e w1 ⟨rfl, rfl⟩
    go_wp2_with fail
    refine (hb _).mono ?_
    rintro e w1 ⟨rfl, rfl⟩
    go_wp2_with fail
    go_ret
    rw [H.out]
    exact ⟨rfl, Below.refl _ _⟩
  · by_cases h2 : b < a
    · have H : Hid (cmpI a b = 1) := by show _ = _; unfold cmpI; rw [if_neg h1, if_pos h2]
      go_enter Tryd.func41, Tryd.ntmps41
      go_wp2_with fail
      refine (ha _).mono ?_
      rintro e w1 ⟨rfl, rfl⟩
      go_wp2_with fail
      refine (hb _).mono ?_
      rintro e w1 ⟨rfl, rfl⟩
      go_wp2_with fail
      go_ret
      rw [H.out]
      exact ⟨rfl, Below.refl _ _⟩
    · have H : Hid (cmpI a b = 0) := by show _ = _; unfold cmpI; rw [if_neg h1, if_neg h2]
      go_enter Tryd.func41, Tryd.ntmps41
      go_wp2_with fail
      refine (ha _).mono ?_
      rintro e w1 ⟨rfl, rfl⟩
      go_wp2_with fail
      refine (hb _).mono ?_
      rintro e w1 ⟨rfl, rfl⟩
      go_wp2_with fail
      go_ret
      rw [H.out]
      exact ⟨rfl, Below.refl _ _⟩

/-- A closure that tells atoms of l apart by p. -/
structure Pr (w : World) (F : FuncId) (fi ca : Array Value) (l : List Atm) (p : Atm → Bool) : Prop where
  enter : ∀ (args : Array Value) (W : World), Sem.run Tryd.prog (callFunc F args) W = .ok (.enter F args) W
  say : ∀ W, Below w.heap.size w W → ∀ x ∈ l, Calls Tryd.prog F (fi.push (.agg #[.int .i64 x.c, .int .i64 x.q, .int .i64 x.n, .int .i32 x.z]) ++ ca) W fun e w' => e = .returned (.bool (p x)) ∧ Below W.heap.size W w'
theorem Pr.below {w W : World} {F : FuncId} {fi ca : Array Value} {l : List Atm} {p : Atm → Bool} (h : Pr w F fi ca l p) (hb : Below w.heap.size w W) : Pr W F fi ca l p := ⟨h.enter, fun W' hb' => h.say W' (chain hb hb')⟩
theorem Pr.sub {w : World} {F : FuncId} {fi ca : Array Value} {l m : List Atm} {p : Atm → Bool} (h : Pr w F fi ca l p) (hm : ∀ x ∈ m, x ∈ l) : Pr w F fi ca m p := ⟨h.enter, fun W hb x hx => h.say W hb x (hm x hx)⟩
theorem filter_take {l : List Atm} {p : Atm → Bool} {k : Nat} (h : k < l.length) : (l.take (k + 1)).filter p = (l.take k).filter p ++ if p l[k] = true then [l[k]] else [] := by
  rw [List.take_succ_eq_append_getElem h, List.filter_append]
  congr 1
  simp [List.filter_cons]

theorem ub_cells {W : World} {b : Nat} {x : Atm} (h : W.heap[b]? = some (.cells #[.int .i64 x.c, .int .i64 x.q, .int .i64 x.n, .int .i32 x.z] 136)) :
    W.cell? ⟨b, 0, none⟩ = some (.int .i64 x.c) ∧ W.cell? ⟨b, 1, none⟩ = some (.int .i64 x.q) ∧ W.cell? ⟨b, 2, none⟩ = some (.int .i64 x.n) ∧ W.cell? ⟨b, 3, none⟩ = some (.int .i32 x.z) := by
  refine ⟨?_, ?_, ?_, ?_⟩ <;> (unfold World.cell?; rw [h]; rfl)
set_option maxRecDepth 20000 in
set_option maxHeartbeats 1000000 in
theorem those_any (F : FuncId) (fi ca : Array Value) (v : Value) (l : List Atm) (p : Atm → Bool) (w : World) (hr : RdK w v l) (hP : Pr w F fi ca l p) (hl : l.length ≤ 1000000) :
    Calls Tryd.prog 64 #[v, .func (.func F) fi ca] w fun e w' => ∃ u, e = .returned u ∧ w'.ownsRow w.heap.size 136 4 u (l.filter p).length (ucs (l.filter p)) ∧ Below w.heap.size w w' := by
  obtain ⟨ao, cp, hv, -⟩ := id hr
  subst hv
  have hF := hP.enter
  go_enter Tryd.func64, Tryd.ntmps64
  go_wp2_with fail
  go_loopw [5, 10] (fun u i wr => ∃ (k : Nat), k ≤ l.length ∧ i = .int .i64 (k : Int) ∧ wr.ownsRow w.heap.size 136 4 u ((l.take k).filter p).length (ucs ((l.take k).filter p)) ∧ Below w.heap.size w wr) (fun _ i _ => l.length - (Go.RowKit.intOf i).toNat)
  case atStart => exact ⟨0, Nat.zero_le _, rfl, World.ownsRow_nil _ _ _ _, Below.refl _ _⟩
  case round =>
    obtain ⟨k, hk, rfl, ho, hB⟩ := hrel
    by_cases hlt : k < l.length
    · obtain ⟨a1, k1, rfl⟩ := own_form ho
      have hlt' : (k : Int) < (l.length : Int) := by omega
      obtain ⟨bb, off, rfl, -, e0, e1, e2, e3⟩ := rdk_at (hr.below hB) (i := k) (x := l[k]) (by simp [hlt])
      have hft := filter_take (p := p) hlt
      have hxm : l[k] ∈ l := by simp
      have hfl : ((l.take k).filter p).length ≤ 1000000 := Nat.le_trans (List.length_filter_le ..) (by simp; omega)
      have hs := fun W hb => hP.say W hb l[k] hxm
      generalize l[k] = x at *
      have hBa := hB.alloc hB.size (.cells #[.int .i64 x.c, .int .i64 x.q, .int .i64 x.n, .int .i32 x.z] 136)
      have hoa := ho.alloc (.cells #[.int .i64 x.c, .int .i64 x.q, .int .i64 x.n, .int .i32 x.z] 136)
      have hub : (wr.alloc (.cells #[.int .i64 x.c, .int .i64 x.q, .int .i64 x.n, .int .i32 x.z] 136)).heap[wr.heap.size]? = some (.cells #[.int .i64 x.c, .int .i64 x.q, .int .i64 x.n, .int .i32 x.z] 136) := heap_alloc_new wr _
      have hc := hs _ hBa
      clear ho hr hP hs
      generalize (l.take k).filter p = Y at *
      obtain ⟨c0, c1, c2, c3⟩ := ub_cells hub
      cases hp : p x
      · rw [hp] at hc hft
        simp only [Bool.false_eq_true, if_false, List.append_nil] at hft
        have HF : Hid ((l.take (k + 1)).filter p = Y) := hft
        clear hp hft c0 c1 c2 c3
        go_wp2_with fail
        refine hc.mono ?_
        rintro e w1 ⟨rfl, hb1⟩
        have hB1 := chain hBa hb1
        have ho1 := own_belowG hoa hb1
        clear hc hb1 hoa hBa
        go_wp2_with fail
        refine ⟨⟨k + 1, by omega, by simp, by rw [HF.out]; exact ho1, hB1⟩, ?_⟩
        simp [Go.RowKit.intOf]
        omega
      · rw [hp] at hc hft
        simp only [if_true] at hft
        have HF : Hid ((l.take (k + 1)).filter p = Y ++ [x]) := hft
        clear hp hft c0 c1 c2 c3
        go_wp2_with fail
        refine hc.mono ?_
        rintro e w1 ⟨rfl, hb1⟩
        have hB1 := chain hBa hb1
        have ho1 := own_belowG hoa hb1
        have hub1 := (hb1.block _ (heap_lt hub)).trans hub
        obtain ⟨c0, c1, c2, c3⟩ := ub_cells hub1
        have hs1 := hB1.size
        clear hc hb1 hoa hBa hub
        go_wp2_with (at_builtin; refine wpList_app_units _ rfl (.tmp 17) (.tmp 19) rfl w.heap.size (.slice a1 Y.length k1) _ Y [x] rfl rfl (ho1.alloc _) (by simp; omega) (rdk_new w1 x) (by simp; omega) ?_; intro v5 w5 ho5 hg5)
        have hB5 := (hB1.alloc hs1 _).grown hg5 (by simp; omega) (fun k hk => (ho1.lt k hk).1)
        refine ⟨⟨k + 1, by omega, by simp, by rw [HF.out]; exact ho5, hB5⟩, ?_⟩
        simp [Go.RowKit.intOf]
        omega
    · obtain rfl : k = l.length := by omega
      rw [List.take_length] at ho
      obtain ⟨a1, k1, rfl⟩ := own_form ho
      clear hr hP
      go_wp2_with fail
      go_ret
      exact ⟨_, rfl, ho, hB⟩

/-! ### Pieces -/
theorem Tryd.infoUs : (Tryd.prog.info? 82).map (fun i => (i.zero, i.size, i.bytes)) = some (some (.slice none 0 0), 1, 24) := by kernel_rfl
theorem sizeUnit (W : World) : (sizeOf 136).run Tryd.prog W = .ok 4 W := by
  obtain ⟨i0, hi, hz0, hz1, hz2⟩ := info_parts Tryd.infoUnit
  simp [sizeOf, typeInfo, hi, hz1]
theorem rdk_off {W : World} {ao : Option Addr} {cp : Nat} {l : List Atm} (h : RdK W (.slice ao l.length cp) l) (lo hi : Nat) (h1 : lo ≤ hi) (h2 : hi ≤ l.length) : RdK W (sliced ao lo hi cp 4) ((l.drop lo).take (hi - lo)) := by
  obtain ⟨a, c, e, hcp, hc⟩ := h
  injection e with e1 _ e3
  subst e1 e3
  have hlen : ((l.drop lo).take (hi - lo)).length = hi - lo := by simp; omega
  refine ⟨if cp = lo then ao else ao.map (·.add (lo * 4)), cp - lo, ?_, by omega, fun i x hx => ?_⟩
  · unfold sliced
    rw [hlen]
  · have hi' : i < hi - lo := by
      have := (List.getElem?_eq_some_iff.1 hx).1
      omega
    rw [List.getElem?_take_of_lt hi', List.getElem?_drop] at hx
    obtain ⟨b, off, rfl, hb, c0, c1, c2, c3⟩ := hc (lo + i) x hx
    refine ⟨b, off + lo * 4, ?_, hb, ?_⟩
    · rw [if_neg (by omega)]
      simp only [Option.map_some, addr_add]
    · have ee : off + lo * 4 + i * 4 = off + (lo + i) * 4 := by omega
      rw [ee]
      exact ⟨c0, c1, c2, c3⟩
set_option maxRecDepth 20000 in
theorem cut_units {ao : Option Addr} {n cp : Nat} (hcp : n ≤ cp) (lo hi : Nat) (h1 : lo ≤ hi) (h2 : hi ≤ n) (W : World) :
    (Instr.slice 82 (.slice ao n cp) (some (.int .i64 (lo : Int))) (some (.int .i64 (hi : Int))) none).run Tryd.prog W = .ok (sliced ao lo hi cp 4) W := by
  have e : Tryd.prog.elem 82 = 136 := by kernel_rfl
  rw [run_slice_lh (P := Tryd.prog) W 82 ao n cp Tryd.underlying82 .i64 .i64 (lo : Int) (hi : Int) (by omega) (by omega) (by omega), e, sizeUnit]
  simp only [Result.andThen, Int.toNat_natCast]
set_option maxRecDepth 20000 in
theorem tail_units {ao : Option Addr} {n cp : Nat} (lo : Nat) (h1 : lo ≤ n) (W : World) :
    (Instr.slice 82 (.slice ao n cp) (some (.int .i64 (lo : Int))) none none).run Tryd.prog W = .ok (sliced ao lo n cp 4) W := by
  have e : Tryd.prog.elem 82 = 136 := by kernel_rfl
  rw [run_slice_l (P := Tryd.prog) W 82 ao n cp Tryd.underlying82 .i64 (lo : Int) (by omega) (by omega), e, sizeUnit]
  simp only [Result.andThen, Int.toNat_natCast]
/-- Slices that read as these pieces. -/
def Pcs (w : World) (vs : List Value) (G : List (List Atm)) : Prop := vs.length = G.length ∧ ∀ (i : Nat) (g : List Atm), G[i]? = some g → ∃ v, vs[i]? = some v ∧ RdK w v g
theorem Pcs.below {w w' : World} {vs : List Value} {G : List (List Atm)} (h : Pcs w vs G) (hb : Below w.heap.size w w') : Pcs w' vs G := ⟨h.1, fun i g hg => by obtain ⟨v, h1, h2⟩ := h.2 i g hg; exact ⟨v, h1, h2.below hb⟩⟩
theorem Pcs.add {w : World} {vs : List Value} {G : List (List Atm)} {v : Value} {g : List Atm} (h : Pcs w vs G) (hv : RdK w v g) : Pcs w (vs ++ [v]) (G ++ [g]) := by
  refine ⟨by simp [h.1], fun i y hy => ?_⟩
  by_cases hi : i < G.length
  · rw [List.getElem?_append_left hi] at hy
    obtain ⟨u, h1, h2⟩ := h.2 i y hy
    exact ⟨u, by rw [List.getElem?_append_left (by rw [h.1]; exact hi)]; exact h1, h2⟩
  · have hi2 := (List.getElem?_eq_some_iff.1 hy).1
    simp at hi2
    have : i = G.length := by omega
    subst this
    simp at hy
    subst hy
    exact ⟨v, by rw [← h.1]; simp, hv⟩
/-- Pieces in the world. -/
def RdG (w : World) (v : Value) (G : List (List Atm)) : Prop :=
  ∃ (ao : Option Addr) (cp : Nat), v = .slice ao G.length cp ∧ G.length ≤ cp ∧ ∀ i g, G[i]? = some g → ∃ b off u, ao = some ⟨b, off, none⟩ ∧ b < w.heap.size ∧ w.cell? ⟨b, off + i, none⟩ = some u ∧ RdK w u g
theorem RdG.below {w w' : World} {v : Value} {G : List (List Atm)} (h : RdG w v G) (hb : Below w.heap.size w w') : RdG w' v G := by
  obtain ⟨ao, cp, e, hc, h⟩ := h
  refine ⟨ao, cp, e, hc, fun i g hg => ?_⟩
  obtain ⟨b, off, u, e1, h1, c0, hu⟩ := h i g hg
  exact ⟨b, off, u, e1, Nat.lt_of_lt_of_le h1 hb.size, (hb.cell (p := ⟨b, off + i, none⟩) h1).trans c0, hu.below hb⟩
theorem rdg_at {W : World} {ao : Option Addr} {N cp : Nat} {G : List (List Atm)} (h : RdG W (.slice ao N cp) G) {i : Nat} {g : List Atm} (hx : G[i]? = some g) : ∃ b off u, ao = some ⟨b, off, none⟩ ∧ b < W.heap.size ∧ W.cell? ⟨b, off + i, none⟩ = some u ∧ RdK W u g := by
  obtain ⟨a, c, e, -, h⟩ := h
  injection e with e1 _ _
  subst e1
  exact h i g hx
theorem rdg_own {W : World} {B : Nat} {v : Value} {vs : List Value} {G : List (List Atm)} (h : W.ownsRow B 82 1 v vs.length vs) (hp : Pcs W vs G) : RdG W v G := by
  rcases h.2 with ⟨rfl, h0⟩ | ⟨g, cap, cur, rfl, _, hg, hn, _, _, ht⟩
  · have e : G = [] := List.length_eq_zero_iff.1 (by rw [← hp.1]; exact h0)
    subst e
    exact ⟨none, 0, rfl, Nat.le_refl _, fun i x hx => by simp at hx⟩
  · refine ⟨_, _, by rw [← hp.1], by rw [← hp.1]; exact hn, fun i x hx => ?_⟩
    obtain ⟨u, h1, h2⟩ := hp.2 i x hx
    have q := h.cells (g := g) rfl _ _ h1
    rw [addr4] at q
    exact ⟨g, 0, u, rfl, heap_lt hg, q, h2⟩
theorem sliced_form (ao : Option Addr) (lo hi cp : Nat) : ∃ a c, sliced ao lo hi cp 4 = .slice a (hi - lo) c := ⟨_, _, rfl⟩

set_option maxRecDepth 20000 in
set_option maxHeartbeats 1000000 in
theorem gaps_any (F : FuncId) (fi ca : Array Value) (v : Value) (l : List Atm) (p : Atm → Bool) (w : World) (hr : RdK w v l) (hP : Pr w F fi ca l p) (hl : l.length ≤ 1000000) :
    Calls Tryd.prog 65 #[v, .func (.func F) fi ca] w fun e w' => ∃ u, e = .returned u ∧ RdG w' u (gpG p [] [] l) ∧ Below w.heap.size w w' := by
  obtain ⟨ao, cp, hv, hcp, -⟩ := id hr
  subst hv
  have hF := hP.enter
  obtain ⟨i0, hi, hz0, hz1, hz2⟩ := info_parts Tryd.infoUs
  go_enter Tryd.func65, Tryd.ntmps65
  go_wp2_with fail
  go_loopw [5, 6, 11] (fun u f i wr => ∃ (k n : Nat) (vs : List Value) (D : List (List Atm)), k ≤ l.length ∧ n ≤ k ∧ i = .int .i64 (k : Int) ∧ f = .int .i64 (n : Int) ∧ Hid (gpG p [] [] l = gpG p D ((l.take k).drop n) (l.drop k)) ∧ D.length ≤ k ∧ wr.ownsRow w.heap.size 82 1 u vs.length vs ∧ Pcs w vs D ∧ Below w.heap.size w wr) (fun _ _ i _ => l.length - (Go.RowKit.intOf i).toNat)
  case atStart => exact ⟨0, 0, [], [], Nat.zero_le _, Nat.le_refl _, rfl, rfl, by show _ = _; simp, Nat.le_refl _, World.ownsRow_nil _ _ _ _, ⟨rfl, fun i g h => by simp at h⟩, Below.refl _ _⟩
  case round =>
    obtain ⟨k, n, vs, D, hk, hn, rfl, rfl, hG, hDl, ho, hp, hB⟩ := hrel
    obtain ⟨a1, k1, rfl⟩ := own_form ho
    have hvl : vs.length ≤ 1000000 := by rw [hp.1]; omega
    by_cases hlt : k < l.length
    · have hlt' : (k : Int) < (l.length : Int) := by omega
      obtain ⟨bb, off, rfl, -, e0, e1, e2, e3⟩ := rdk_at (hr.below hB) (i := k) (x := l[k]) (by simp [hlt])
      have hgd := gpG_drop (p := p) (D := D) (c := (l.take k).drop n) hlt
      rw [← hG.out] at hgd
      have hs := fun W hb => hP.say W hb l[k] (by simp)
      have hpc := rdk_off hr n k hn (by omega)
      have hcut := cut_units (ao := some ⟨bb, off, none⟩) hcp n k hn (by omega)
      have htk : (l.take (k + 1)).drop n = (l.take k).drop n ++ [l[k]] := by
        rw [List.take_succ_eq_append_getElem hlt, List.drop_append_of_le_length (by simp; omega)]
      have hdt : (l.drop n).take (k - n) = (l.take k).drop n := by rw [List.drop_take]
      rw [hdt] at hpc
      rw [← htk] at hgd
      have h0 : (l.take (k + 1)).drop (k + 1) = [] := List.drop_of_length_le (by simp; omega)
      generalize l[k] = x at *
      have hBa := hB.alloc hB.size (.cells #[.int .i64 x.c, .int .i64 x.q, .int .i64 x.n, .int .i32 x.z] 136)
      have hoa := ho.alloc (.cells #[.int .i64 x.c, .int .i64 x.q, .int .i64 x.n, .int .i32 x.z] 136)
      have hc := hs _ hBa
      clear ho hr hP hs hG htk hdt
      cases hpx : p x
      · rw [hpx] at hc hgd
        simp only [Bool.false_eq_true, if_false] at hgd
        have HG : Hid (gpG p [] [] l = gpG p D ((l.take (k + 1)).drop n) (l.drop (k + 1))) := hgd
        clear hpx hgd hpc hcut h0
        go_wp2_with fail
        refine hc.mono ?_
        rintro e w1 ⟨rfl, hb1⟩
        have hB1 := chain hBa hb1
        have ho1 := own_belowG hoa hb1
        clear hc hb1 hoa hBa
        go_wp2_with fail
        refine ⟨⟨k + 1, n, vs, D, by omega, by omega, by simp, rfl, HG, by omega, ho1, hp, hB1⟩, ?_⟩
        simp [Go.RowKit.intOf]
        omega
      · rw [hpx] at hc hgd
        simp only [if_true] at hgd
        have HG : Hid (gpG p [] [] l = gpG p (D ++ [(l.take k).drop n]) ((l.take (k + 1)).drop (k + 1)) (l.drop (k + 1))) := by show _ = _; rw [h0]; exact hgd
        clear hpx hgd h0
        have hp2 := hp.add hpc
        obtain ⟨a9, k9, e9⟩ := sliced_form (some ⟨bb, off, none⟩) n k cp
        rw [e9] at hcut hp2
        clear e9 hpc hp
        go_wp2_with fail
        refine hc.mono ?_
        rintro e w1 ⟨rfl, hb1⟩
        have hB1 := chain hBa hb1
        have ho1 := own_belowG hoa hb1
        have hs1 := hB1.size
        clear hc hb1 hoa hBa
        go_wp2_with (at_builtin; refine wpList_append_own _ rfl (.tmp 19) (.tmp 24) 140 rfl w.heap.size 82 i0 (.slice none 0 0) 1 24 Tryd.underlying140 hi hz0 hz1 hz2 rfl (by decide) _ _ _ rfl (ho1.alloc _) ⟨_, 0, none⟩ 1 1 [.slice a9 (k - n) k9] rfl rfl (one_new _ _ _) (one_one _ rfl) (by unfold maxLen; omega) (by omega) (by simp; omega) ?_; intro v5 w5 ho5 hg5 hnil5)
        have hB5 := (hB1.alloc hs1 _).grown hg5 (by simp; omega) (fun k hk => (ho1.lt k hk).1)
        refine ⟨⟨k + 1, k + 1, vs ++ [.slice a9 (k - n) k9], D ++ [(l.take k).drop n], by omega, by omega, by simp, by go_num, HG, by simp; omega, by simpa using ho5, hp2, hB5⟩, ?_⟩
        simp [Go.RowKit.intOf]
        omega
    · obtain rfl : k = l.length := by omega
      have hpc := rdk_off hr n l.length hn (Nat.le_refl _)
      have hcut := tail_units (ao := ao) (n := l.length) (cp := cp) n hn
      have hdt : (l.drop n).take (l.length - n) = l.drop n := List.take_of_length_le (by simp)
      rw [hdt] at hpc
      have hg2 := hG.out
      rw [List.take_length, List.drop_length, gpG] at hg2
      have HG : Hid (gpG p [] [] l = D ++ [l.drop n]) := hg2
      have hp2 := hp.add hpc
      obtain ⟨a9, k9, e9⟩ := sliced_form ao n l.length cp
      rw [e9] at hcut hp2
      clear e9 hpc hp hr hP hG hg2 hdt
      have hs1 := hB.size
      go_wp2_with (at_builtin; refine wpList_append_own _ rfl (.tmp 29) (.tmp 33) 140 rfl w.heap.size 82 i0 (.slice none 0 0) 1 24 Tryd.underlying140 hi hz0 hz1 hz2 rfl (by decide) _ _ _ rfl (ho.alloc _) ⟨_, 0, none⟩ 1 1 [.slice a9 (l.length - n) k9] rfl rfl (one_new _ _ _) (one_one _ rfl) (by unfold maxLen; omega) (by omega) (by simp; omega) ?_; intro v5 w5 ho5 hg5 hnil5)
      have hB5 := (hB.alloc hs1 _).grown hg5 (by simp; omega) (fun k hk => (ho.lt k hk).1)
      obtain ⟨a5, k5, rfl⟩ := own_form ho5
      go_ret
      rw [HG.out]
      exact ⟨_, rfl, rdg_own (vs := vs ++ [.slice a9 (l.length - n) k9]) (by simpa using ho5) (hp2.below hB5), hB5⟩
end Go.Proofs.YtjimolafoihnpaaDoor
