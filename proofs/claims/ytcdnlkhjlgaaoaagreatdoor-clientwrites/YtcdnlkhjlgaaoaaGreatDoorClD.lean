/-
  strings.Builder; the forms of numbers, texts and deltas: nums, texts, deltas.
-/
import Derived.Test.YtcdnlkhjlgaaoaaGreatDoorClA
import Derived.Test.YtcdnlkhjlgaaoaaGreatDoorDlE
import Derived.Test.YtcdnlkhjlgaaoaaGreatDoorLayB
import Derived.Lib.Builder
import Derived.Lib.AppendStr
import Derived.Deep.RegionLaw
import Derived.Test.YtcdnlkhjlgaaoaaGreatDoorMono
namespace Go.Proofs.YtcdnlkhjlgaaoaaGreatDoor
open Go.WideShapes Go.RowKit Go.ChangeShapes Go.ChangeAt Go.PlainAid

theorem Tryz.infoBd : (Tryz.prog.info? 73).map (·.size) = some 2 := by kernel_rfl
theorem shape_bd {W : World} {b : Nat} {p v : Value} (h : W.heap[b]? = some (.cells #[p, v] 73)) : W.shape? b = some (73, 2) := by
  simp [World.shape?, h]
theorem to_unsafe {W : World} {b : Nat} {p v : Value} (h : W.heap[b]? = some (.cells #[p, v] 73)) : (convert 70 130 (.pointer (some ⟨b, 0, none⟩))).run Tryz.prog W = .ok (.pointer (some ⟨b, 0, none⟩)) W := by
  cases hj : Tryz.prog.info? 73 with
  | none => have := Tryz.infoBd; rw [hj] at this; simp at this
  | some j =>
    have h2 : j.size = 2 := by have := Tryz.infoBd; rw [hj] at this; simpa using this
    exact Lib.run_to_unsafe W ⟨b, 0, none⟩ Tryz.underlying70 Tryz.underlying130 hj (by omega) (shape_bd h) (by show 0 < 2; decide)
theorem from_unsafe {W : World} {b : Nat} {p v : Value} (h : W.heap[b]? = some (.cells #[p, v] 73)) : (convert 130 70 (.pointer (some ⟨b, 0, none⟩))).run Tryz.prog W = .ok (.pointer (some ⟨b, 0, none⟩)) W := by
  cases hj : Tryz.prog.info? 73 with
  | none => have := Tryz.infoBd; rw [hj] at this; simp at this
  | some j => exact Lib.run_from_unsafe W ⟨b, 0, none⟩ Tryz.underlying130 Tryz.underlying70 hj (shape_bd h) (by kernel_rfl)
theorem neq_same (W : World) (b : Nat) : (binOp .neq 70 (.pointer (some ⟨b, 0, none⟩)) (.pointer (some ⟨b, 0, none⟩))).run Tryz.prog W = .ok (.bool false) W := by
  cases hj : Tryz.prog.info? 73 with
  | none => have := Tryz.infoBd; rw [hj] at this; simp at this
  | some j => exact Lib.run_neq_ptr_same W ⟨b, 0, none⟩ Tryz.underlying70 hj

theorem noEscape (x : Value) (W : World) : (callFunc 87 #[x]).run Tryz.prog W = .ok (.value x) W := by
  rw [run_callFunc_extern Tryz.func87 (by kernel_rfl) (by kernel_rfl) (by kernel_rfl) (e := Extern.AbiNoEscape.same) (by kernel_rfl)]
  rw [Lib.run_noEscape]
  rfl

set_option maxRecDepth 20000 in
set_option maxHeartbeats 1000000 in
theorem copyCheck_fresh (b : Nat) (v : Value) (w : World) (h : w.heap[b]? = some (.cells #[.pointer none, v] 73)) :
    Calls Tryz.prog 67 #[.pointer (some ⟨b, 0, none⟩)] w fun e w' => e = .returned (.tuple #[]) ∧ w'.heap[b]? = some (.cells #[.pointer (some ⟨b, 0, none⟩), v] 73) ∧ w.grownBy w' (some b) := by
  have c0 : w.cell? ⟨b, 0, none⟩ = some (.pointer none) := cell_of_row _ _ 0 _ _ (0, 0) h
  have z0 := frz h 0
  have u1 := to_unsafe h
  have u2 := from_unsafe h
  have n1 := neq_same w b
  have h2 := heap_setCell h 0 (.pointer (some ⟨b, 0, none⟩))
  have c2 : (w.setCell ⟨b, 0, none⟩ (.pointer (some ⟨b, 0, none⟩))).cell? ⟨b, 0, none⟩ = some (.pointer (some ⟨b, 0, none⟩)) := cell_of_row _ _ 0 _ _ (0, 0) h2
  have n2 := neq_same (w.setCell ⟨b, 0, none⟩ (.pointer (some ⟨b, 0, none⟩))) b
  have ne := noEscape (.pointer (some ⟨b, 0, none⟩)) w
  go_enter Tryz.func67, Tryz.ntmps67
  go_wp2_with fail
  go_end0
  exact ⟨rfl, h2, grown_set w b 0 _⟩

set_option maxRecDepth 20000 in
set_option maxHeartbeats 1000000 in
theorem copyCheck_used (b : Nat) (v : Value) (w : World) (h : w.heap[b]? = some (.cells #[.pointer (some ⟨b, 0, none⟩), v] 73)) :
    Calls Tryz.prog 67 #[.pointer (some ⟨b, 0, none⟩)] w fun e w' => e = .returned (.tuple #[]) ∧ w' = w := by
  have c0 : w.cell? ⟨b, 0, none⟩ = some (.pointer (some ⟨b, 0, none⟩)) := cell_of_row _ _ 0 _ _ (0, 0) h
  have n1 := neq_same w b
  go_enter Tryz.func67, Tryz.ntmps67
  go_wp2_with fail
  go_end0
  exact ⟨rfl, rfl⟩

abbrev BdAt (B b : Nat) (bs : List Value) (w : World) : Prop := Lib.BuilderAt 73 5 B b (.pointer (some ⟨b, 0, none⟩)) bs w
abbrev Bd (B b : Nat) (bs : List Value) (w : World) : Prop := Lib.IsBuilder 73 5 B b bs w

theorem copyCheck_any (B b : Nat) (bs : List Value) (w : World) (h : Bd B b bs w) :
    Calls Tryz.prog 67 #[.pointer (some ⟨b, 0, none⟩)] w fun e w' => e = .returned (.tuple #[]) ∧ BdAt B b bs w' ∧ Below B w w' := by
  rcases h with h | h
  · obtain ⟨hB, v, hb, ho, hne⟩ := h
    refine (copyCheck_fresh b v w hb).mono ?_
    rintro e w' ⟨rfl, h2, hg⟩
    exact ⟨rfl, ⟨hB, v, h2, ho.kept hg (.inr hne), hne⟩, (Below.refl B w).grown hg (by have := heap_lt hb; omega) (fun k e => by injection e with e; omega)⟩
  · obtain ⟨hB, v, hb, ho, hne⟩ := h
    refine (copyCheck_used b v w hb).mono ?_
    rintro e w' ⟨rfl, rfl⟩
    exact ⟨rfl, ⟨hB, v, hb, ho, hne⟩, Below.refl _ _⟩

set_option maxRecDepth 20000 in
set_option maxHeartbeats 1000000 in
theorem writeString_any (B b : Nat) (bs : List Value) (s : ByteArray) (w : World) (h : Bd B b bs w) (hl : bs.length + s.size ≤ 140737488355328) (hBw : B ≤ w.heap.size) :
    Calls Tryz.prog 36 #[.pointer (some ⟨b, 0, none⟩), .string s] w fun e w' => e = .returned (.tuple #[.int .i64 s.size, .nilIface]) ∧ BdAt B b (bs ++ Lib.strCells s) w' ∧ Below B w w' := by
  obtain ⟨i0, hin, hz0, hz1, hz2⟩ := info_parts Tryz.info5
  have hc := copyCheck_any B b bs w h
  clear h
  go_enter Tryz.func36, Tryz.ntmps36
  go_wp2_with (first | (go_at_call 67; refine hc.mono ?_; rintro e w1 ⟨rfl, h1, hb1⟩; obtain ⟨hB, v, hbk, hown, hne⟩ := h1; obtain ⟨a1, k1, rfl⟩ := own_form hown; have c1 := cell_of_row _ _ 1 _ _ (0, 0) hbk; simp at c1; have hs1 := hb1.size) | (at_builtin; refine Lib.wpList_append_own_string _ rfl (.tmp 12) (.tmp 13) 71 9 rfl B 5 i0 Tryz.underlying71 Tryz.underlying9 hin hz0 hz1 hz2 _ _ _ rfl hown s rfl (by unfold maxLen; omega) (by omega) (by omega) ?_; intro v4 w4 ho4 hg4 _; obtain ⟨a4, k4, rfl⟩ := own_form ho4; have hbk4 := (hg4.block b (heap_lt hbk) (fun e => hne e.symm)).trans hbk; have z4 := frz hbk4 1; have q4 := cell_of_row _ _ 1 _ _ (0, 0) hbk4; simp at q4; have hbl := hb1.grown hg4 (by omega) (fun k hk => (hown.lt k hk).1)))
  go_ret2
  exact ⟨rfl, Lib.BuilderAt.put hB hbk4 (by simpa [Lib.strCells_length] using ho4) (by decide), hbl.setCell (p := ⟨b, 1, none⟩) hB _⟩
theorem bdX : Builder.Extra Tryz.prog Tryz.laysSt_ren where
  sizeBuilder := Tryz.infoBd
  liesBuilder := by kernel_rfl
  t5 := Tryz.underlying5
  a5 := Tryz.isAgg5
  z5 := Tryz.sizeOf5
  v5 := Tryz.zeroValue5
  infoByte := Tryz.info5
  cellsByte := by kernel_rfl
  sizeByte := by kernel_rfl
  neB5 := by decide
theorem string_any (B b : Nat) (l : List UInt8) (w : World) (h : Bd B b (Lib.byteCells l) w) (hBw : B ≤ w.heap.size) :
    Calls Tryz.prog 37 #[.pointer (some ⟨b, 0, none⟩)] w fun e w' => e = .returned (.string (mk l)) ∧ Below B w w' :=
  Any.Builder_String_any Tryz.laysSt bdX B b l w h hBw


theorem bdC_below {B b : Nat} {bs : List Value} {w w' : World} (h : Bd B b bs w) (hb : Below w.heap.size w w') : Bd B b bs w' := by
  have hg : w.grownBy w' none := ⟨hb.os, hb.tape, hb.output, hb.size, fun k hk _ => hb.block k hk⟩
  rcases h with ⟨h1, v, h2, h3, h4⟩ | ⟨h1, v, h2, h3, h4⟩
  · exact .inl ⟨h1, v, (hb.block b (heap_lt h2)).trans h2, h3.kept hg (by cases v.ownBlock <;> simp), h4⟩
  · exact .inr ⟨h1, v, (hb.block b (heap_lt h2)).trans h2, h3.kept hg (by cases v.ownBlock <;> simp), h4⟩
theorem bdC_lt {B b : Nat} {bs : List Value} {w : World} (h : Bd B b bs w) : b < w.heap.size := by
  rcases h with ⟨_, v, h2, _⟩ | ⟨_, v, h2, _⟩
  · exact heap_lt h2
  · exact heap_lt h2
theorem cells_app (a b : List UInt8) : Lib.byteCells a ++ Lib.strCells (mk b) = Lib.byteCells (a ++ b) := by
  simp [Lib.byteCells, Lib.strCells, mk]
theorem rdv_at {w : World} {v : Value} {xs : List Value} (h : RdV w v xs) : ∃ ao cp, v = .slice ao xs.length cp := by
  obtain ⟨ao, cp, e, _⟩ := h
  exact ⟨ao, cp, e⟩

set_option maxRecDepth 20000 in
set_option maxHeartbeats 1000000 in
theorem cnums_any (v : Value) (ns : List Nat) (w : World) (hr : RdV w v (nsV ns)) (hn : ∀ n ∈ ns, n ≤ 1125899906842624) (hl : ns.length ≤ 10) :
    Calls Tryz.prog 12 #[v] w fun e w' => e = .returned (.string (mk (nmB ns))) ∧ Below w.heap.size w w' := by
  obtain ⟨ao, cp, rfl, hc⟩ := id hr
  have hnl : (nsV ns).length = ns.length := by simp [nsV]
  rw [hnl]
  have hA := alloc_b w (.cells #[.pointer none, .slice none 0 0] 73)
  have hbd := Lib.fresh_isBuilder 73 5 w
  clear hnl
  go_enter Tryz.func12, Tryz.ntmps12
  go_wp2_with fail
  go_loopw [10] (fun i wr => ∃ k : Nat, k ≤ ns.length ∧ i = .int .i64 (k : Int) ∧ Bd w.heap.size w.heap.size (Lib.byteCells (nmB (ns.take k))) wr ∧ Below w.heap.size w wr) (fun i _ => ns.length - (intOf i).toNat)
  case atStart => exact ⟨0, by omega, rfl, by simpa [nmB, Lib.byteCells] using hbd, hA⟩
  case round =>
    obtain ⟨k, hk, rfl, hb, hbl⟩ := hrel
    by_cases hlt : k < ns.length
    · have hlt' : (k : Int) < (ns.length : Int) := by omega
      obtain ⟨g, off, rfl, hg, c0⟩ := hc k (.int .i64 (ns[k] : Int)) (by simp [nsV, hlt])
      have c1 : wr.cell? ⟨g, off + k, none⟩ = some (.int .i64 (ns[k] : Int)) := (hbl.cell (p := ⟨g, off + k, none⟩) hg).trans c0
      have cN := pk.num_ok ns[k] wr (hn _ (List.getElem_mem hlt))
      have hTk : Hid (nmB (ns.take (k + 1)) = nmB (ns.take k) ++ numB ns[k]) := nmB_take ns k hlt
      have hL1 := nmB_len (ns.take k)
      have hL2 : (ns.take k).length ≤ 10 := by simp; omega
      have hL3 := numB_len (n := ns[k])
      generalize ns[k] = x at *
      clear hc c0
      go_wp2_with fail
      refine cN.mono ?_
      rintro e w2 ⟨rfl, hb2⟩
      have hbd2 := bdC_below hb hb2
      have hB2 := chain hbl hb2
      have cS := writeString_any _ _ _ (mk (numB x)) w2 hbd2 (by rw [Lib.byteCells_length, mk_size]; omega) (by have := bdC_lt hbd2; omega)
      clear cN
      go_wp2_with fail
      refine cS.mono ?_
      rintro e w3 ⟨rfl, hb3, hl3⟩
      rw [cells_app, ← hTk.out] at hb3
      go_wp2_with fail
      exact ⟨⟨k + 1, by omega, by go_num, .inr hb3, hB2.trans hl3⟩, by simp [intOf]; omega⟩
    · have hlt' : ¬ (k : Int) < (ns.length : Int) := by omega
      have hkl : ns.take k = ns := List.take_of_length_le (by omega)
      rw [hkl] at hb
      have cS := string_any _ _ _ _ hb (by have := bdC_lt hb; omega)
      go_wp2_with (go_at_call 37; refine cS.mono ?_; rintro e w3 ⟨rfl, hl3⟩)
      go_ret
      exact ⟨rfl, hbl.trans hl3⟩

/-- The forms of texts. -/
def txsB (ts : List ByteArray) : List UInt8 := (ts.map fun s => (pk.textR s).1.data.toList).flatten
theorem txsB_take (ts : List ByteArray) (k : Nat) (h : k < ts.length) : txsB (ts.take (k + 1)) = txsB (ts.take k) ++ (pk.textR ts[k]).1.data.toList := by
  rw [List.take_succ_eq_append_getElem h, txsB, List.map_append, List.flatten_append]; simp [txsB]
theorem textR_len (s : ByteArray) : (pk.textR s).1.data.toList.length ≤ 20020 := by
  unfold pk.textR
  split
  · rename_i h
    have := numB_len (n := s.size)
    simp [mk, pk.textB]
    omega
  · simp
theorem txsB_len (ts : List ByteArray) : (txsB ts).length ≤ 20020 * ts.length := by
  induction ts with
  | nil => simp [txsB]
  | cons s ts ih =>
    have e : txsB (s :: ts) = (pk.textR s).1.data.toList ++ txsB ts := by simp [txsB]
    have := textR_len s
    rw [e, List.length_append, List.length_cons]; omega
set_option maxRecDepth 20000 in
set_option maxHeartbeats 1000000 in
theorem ctexts_any (v : Value) (ts : List ByteArray) (w : World) (hr : RdV w v (ts.map .string)) (hs : ∀ s ∈ ts, s.size ≤ maxLen) (hl : ts.length ≤ 1000) :
    Calls Tryz.prog 13 #[v] w fun e w' => e = .returned (.string (mk (txsB ts))) ∧ Below w.heap.size w w' := by
  obtain ⟨ao, cp, rfl, hc⟩ := id hr
  have hnl : (ts.map Value.string).length = ts.length := by simp
  rw [hnl]
  have hA := alloc_b w (.cells #[.pointer none, .slice none 0 0] 73)
  have hbd := Lib.fresh_isBuilder 73 5 w
  clear hnl
  go_enter Tryz.func13, Tryz.ntmps13
  go_wp2_with fail
  go_loopw [10] (fun i wr => ∃ k : Nat, k ≤ ts.length ∧ i = .int .i64 (k : Int) ∧ Bd w.heap.size w.heap.size (Lib.byteCells (txsB (ts.take k))) wr ∧ Below w.heap.size w wr) (fun i _ => ts.length - (intOf i).toNat)
  case atStart => exact ⟨0, by omega, rfl, by simpa [txsB, Lib.byteCells] using hbd, hA⟩
  case round =>
    obtain ⟨k, hk, rfl, hb, hbl⟩ := hrel
    by_cases hlt : k < ts.length
    · have hlt' : (k : Int) < (ts.length : Int) := by omega
      obtain ⟨g, off, rfl, hg, c0⟩ := hc k (.string ts[k]) (by simp [hlt])
      have c1 : wr.cell? ⟨g, off + k, none⟩ = some (.string ts[k]) := (hbl.cell (p := ⟨g, off + k, none⟩) hg).trans c0
      have cN := pk.text_any ts[k] wr (hs _ (List.getElem_mem hlt))
      have hTk : Hid (txsB (ts.take (k + 1)) = txsB (ts.take k) ++ (pk.textR ts[k]).1.data.toList) := txsB_take ts k hlt
      have hL1 := txsB_len (ts.take k)
      have hL2 : (ts.take k).length ≤ 1000 := by simp; omega
      have hL3 := textR_len ts[k]
      generalize ts[k] = x at *
      generalize (pk.textR x).2 = x2 at *
      obtain ⟨y, hy⟩ : ∃ y, y = (pk.textR x).1 := ⟨_, rfl⟩
      rw [← hy] at cN hTk hL3
      have hL4 : y.size ≤ 20020 := by rw [Array.length_toList] at hL3; exact hL3
      clear hc c0 hy
      go_wp2_with fail
      refine cN.mono ?_
      rintro e w2 ⟨rfl, hb2⟩
      have hbd2 := bdC_below hb hb2
      have hB2 := chain hbl hb2
      have cS := writeString_any _ _ _ y w2 hbd2 (by rw [Lib.byteCells_length]; omega) (by have := bdC_lt hbd2; omega)
      clear cN
      go_wp2_with fail
      refine cS.mono ?_
      rintro e w3 ⟨rfl, hb3, hl3⟩
      have e3 : Lib.byteCells (txsB (ts.take k)) ++ Lib.strCells y = Lib.byteCells (txsB (ts.take (k + 1))) := by
        rw [hTk.out, ← cells_app]
        simp [mk]
      rw [e3] at hb3
      go_wp2_with fail
      exact ⟨⟨k + 1, by omega, by go_num, .inr hb3, hB2.trans hl3⟩, by simp [intOf]; omega⟩
    · have hlt' : ¬ (k : Int) < (ts.length : Int) := by omega
      have hkl : ts.take k = ts := List.take_of_length_le (by omega)
      rw [hkl] at hb
      have cS := string_any _ _ _ _ hb (by have := bdC_lt hb; omega)
      go_wp2_with (go_at_call 37; refine cS.mono ?_; rintro e w3 ⟨rfl, hl3⟩)
      go_ret
      exact ⟨rfl, hbl.trans hl3⟩
theorem one_newC (wr : World) (x : Value) (e : Nat) : ∀ j u, [x][j]? = some u → (wr.alloc (.cells #[x] e)).cell? ((⟨wr.heap.size, 0, none⟩ : Addr).add j) = some u := by
  intro j u hj
  match j, hj with
  | 0, hj => simp at hj; subst hj; simp [Addr.add]
theorem one_oneC (x : Value) (h : x.oneCell' = true) : ∀ u ∈ [x], u.oneCell' = true := by intro u hu; simp at hu; subst hu; exact h
theorem Tryz.infoStr : (Tryz.prog.info? 9).map (fun i => (i.zero, i.size, i.bytes)) = some (some (.string ⟨#[]⟩), 1, 16) := by kernel_rfl
/-- Deltas as texts. -/
def dfs (l : List EdW) : List ByteArray := l.map fun e => (encR e.d).1
set_option maxRecDepth 20000 in
set_option maxHeartbeats 1000000 in
theorem cdeltas_any (v : Value) (l : List EdW) (w : World) (hr : RdEd w v l) (hl : l.length ≤ 1000000) (hF : ∀ e ∈ l, e.Fit) :
    Calls Tryz.prog 14 #[v] w fun e w' => ∃ u, e = .returned u ∧ w'.ownsRow w.heap.size 9 1 u (dfs l).length ((dfs l).map .string) ∧ Below w.heap.size w w' := by
  obtain ⟨ao, cp, rfl, -, hc⟩ := id hr
  obtain ⟨i0, hin, hz0, hz1, hz2⟩ := info_parts Tryz.infoStr
  go_enter Tryz.func14, Tryz.ntmps14
  go_wp2_with fail
  go_loopw [3, 10] (fun a i wr => ∃ k : Nat, k ≤ l.length ∧ i = .int .i64 (k : Int) ∧ wr.ownsRow w.heap.size 9 1 a (dfs (l.take k)).length ((dfs (l.take k)).map .string) ∧ Below w.heap.size w wr) (fun _ i _ => l.length - (intOf i).toNat)
  case atStart => exact ⟨0, by omega, rfl, World.ownsRow_nil _ _ _ _, Below.refl _ _⟩
  case round =>
    obtain ⟨k, hk, rfl, ho, hbl⟩ := hrel
    by_cases hlt : k < l.length
    · have hlt' : (k : Int) < (l.length : Int) := by omega
      obtain ⟨g, off, u, rfl, hg, c0, c1, c2⟩ := hc k l[k] (by simp [hlt])
      have hxf := hF l[k] (List.getElem_mem hlt)
      have hBg : ∀ o, wr.cell? ⟨g, o, none⟩ = w.cell? ⟨g, o, none⟩ := fun o => hbl.cell (p := ⟨g, o, none⟩) hg
      rw [← hBg] at c0 c1
      obtain ⟨au, ku, rfl⟩ := rdd_len c2
      have Htk : Hid (dfs (l.take (k + 1)) = dfs (l.take k) ++ [(encR l[k].d).1]) := by show _ = _; rw [List.take_succ_eq_append_getElem hlt, dfs, List.map_append]; rfl
      have hlen : Hid ((dfs (l.take k)).length = k) := by show _ = _; simp [dfs]; omega
      generalize l[k] = x at *
      have hAx := alloc_b wr (.cells #[.int .i64 x.q, .slice au x.d.length ku] 41)
      have cC := encode_any _ x.d _ (c2.below (chain hbl hAx)) hxf.dl hxf.di
      generalize (encR x.d).1 = y at *
      generalize (encR x.d).2 = y2 at *
      generalize dfs (l.take k) = L0 at *
      clear hc hBg c2 hxf
      obtain ⟨a0, k0, rfl⟩ := own_form ho
      go_wp2_with fail
      refine cC.mono ?_
      rintro e w2 ⟨rfl, hb2⟩
      have hB2 := chain hAx hb2
      have hoE := own_belowG (own_belowG ho hB2) (alloc_b w2 (.cells #[.string y] 9))
      clear cC
      go_wp2_with (at_builtin; refine wpList_append_own _ rfl (.tmp 20) (.tmp 22) 37 rfl w.heap.size 9 i0 (.string ⟨#[]⟩) 1 16 Tryz.underlying37 hin hz0 hz1 hz2 rfl (by decide) _ _ _ rfl hoE ⟨_, 0, none⟩ 1 1 [.string y] rfl rfl (one_newC _ _ _) (one_oneC _ rfl) (by have := hlen.out; unfold maxLen; omega) (by have := hlen.out; omega) (by have := hbl.size; have := hB2.size; simp; omega) ?_; intro v4 w4 ho4 hg4 _)
      have hnew : w4.ownsRow w.heap.size 9 1 v4 (dfs (l.take (k + 1))).length ((dfs (l.take (k + 1))).map .string) := by
        rw [Htk.out, List.length_append, List.map_append]
        exact ho4
      have hbl4 : Below w.heap.size w w4 := (chain hbl (chain hB2 (alloc_b w2 _))).grown hg4 (by have := hbl.size; have := hB2.size; simp; omega) (fun j hj => (hoE.lt j hj).1)
      exact ⟨⟨k + 1, by omega, by go_num, hnew, hbl4⟩, by simp [intOf]; omega⟩
    · have hlt' : ¬ (k : Int) < (l.length : Int) := by omega
      have hkl : l.take k = l := List.take_of_length_le (by omega)
      rw [hkl] at ho
      go_wp2_with fail
      go_ret
      exact ⟨_, rfl, ho, hbl⟩
end Go.Proofs.YtcdnlkhjlgaaoaaGreatDoor

/-
  The form of an editor: Encode.
-/
namespace Go.Proofs.YtcdnlkhjlgaaoaaGreatDoor
open Go.ChangeShapes Go.WideShapes Go.ChangeAt Go.RowKit Go.PlainAid

def frmE (E : EdD) : List UInt8 := nmB [E.c.toNat, E.b.toNat, E.r.toNat] ++ txsB [E.t] ++ nmB [E.s.toNat, E.p.length] ++ txsB (dfs E.p)
def encE (E : EdD) : ByteArray × Int := if mayE E = true then (if 40000 < (frmE E).length then (⟨#[]⟩, 201) else (mk (frmE E), 0)) else (⟨#[]⟩, 200)
/-- What an editor that may be has. -/
structure May (E : EdD) : Prop where
  c0 : 1 ≤ E.c
  c1 : E.c ≤ 8
  b0 : 1 ≤ E.b
  b1 : E.b ≤ 1000000
  r0 : 0 ≤ E.r
  r1 : E.r ≤ 1000000
  t0 : 0 ≤ cpl E.t
  t1 : cpl E.t ≤ 1000
  s0 : 0 ≤ E.s
  s1 : E.s ≤ 100000
  p8 : E.p.length ≤ 8
  ps : (E.p.length : Int) ≤ E.s
  wt : wtG (baseE E) (E.s - E.p.length + 1) E.p = some (cpl E.t)
theorem may_iff (E : EdD) : mayE E = true ↔ May E := by
  unfold mayE mayW wtn
  simp only [Bool.and_eq_true, decide_eq_true_eq]
  constructor
  · rintro ⟨⟨⟨⟨⟨⟨h1, h2⟩, h3, h4⟩, h5, h6⟩, h7, h8⟩, h9, h10⟩, h11, h12⟩
    exact ⟨h1, h2, h3, h4, h5, h6, h7, h8, h9, h10, by omega, by omega, h12⟩
  · intro h
    exact ⟨⟨⟨⟨⟨⟨h.c0, h.c1⟩, h.b0, h.b1⟩, h.r0, h.r1⟩, h.t0, h.t1⟩, h.s0, h.s1⟩, by have := h.p8; have := h.ps; omega, h.wt⟩
theorem mk_appC (a b : List UInt8) : mk (a ++ b) = mk a ++ mk b := by
  apply ByteArray.ext
  apply Array.toList_inj.1
  simp [mk]
theorem hp1 (w : World) (o : Obj) (k : Nat) (h : k = w.heap.size) : (w.alloc o).heap[k]? = some o := by subst h; exact heap_alloc_new w o
theorem hp2 (w : World) (o : Obj) (k : Nat) (h : k < w.heap.size) : (w.alloc o).heap[k]? = w.heap[k]? := Below.heap_alloc w o k h
theorem hp3 (w : World) (k : Nat) : w.drew.heap[k]? = w.heap[k]? := rfl
theorem hp4 (w : World) : w.drew.heap.size = w.heap.size := rfl
theorem rdv_row3 {W : World} {k : Nat} {cs : List Value} {T : TypeId} (h : W.heap[k]? = some (.cells cs.toArray T)) (n : Nat) : RdV W (.slice (some ⟨k, 0, none⟩) cs.length n) cs := by
  refine ⟨_, _, rfl, fun i x hx => ⟨k, 0, rfl, EB.lt' h, ?_⟩⟩
  have := cell_of_row W k (0 + i) _ _ (0, 0) h
  rw [this]
  simpa using hx
theorem nums3 (c b r : Int) (hc : 0 ≤ c ∧ c ≤ 1000000) (hb : 0 ≤ b ∧ b ≤ 1000000) (hr : 0 ≤ r ∧ r ≤ 1000000) (k : Nat) (W : World) (h : W.heap[k]? = some (.cells #[.int .i64 c, .int .i64 b, .int .i64 r] 3)) :
    Calls Tryz.prog 12 #[.slice (some ⟨k, 0, none⟩) 3 3] W fun e w' => e = .returned (.string (mk (nmB [c.toNat, b.toNat, r.toNat]))) ∧ Below W.heap.size W w' := by
  have e : (#[.int .i64 c, .int .i64 b, .int .i64 r] : Array Value) = (nsV [c.toNat, b.toNat, r.toNat]).toArray := by
    simp only [nsV, List.map_cons, List.map_nil]
    rw [Int.toNat_of_nonneg hc.1, Int.toNat_of_nonneg hb.1, Int.toNat_of_nonneg hr.1]
  rw [e] at h
  exact cnums_any _ [c.toNat, b.toNat, r.toNat] W (rdv_row3 h 3) (by simp; omega) (by simp)
theorem nums2 (s : Int) (n : Nat) (hs : 0 ≤ s ∧ s ≤ 1000000) (hn : n ≤ 1000000) (k : Nat) (W : World) (h : W.heap[k]? = some (.cells #[.int .i64 s, .int .i64 (n : Int)] 3)) :
    Calls Tryz.prog 12 #[.slice (some ⟨k, 0, none⟩) 2 2] W fun e w' => e = .returned (.string (mk (nmB [s.toNat, n]))) ∧ Below W.heap.size W w' := by
  have e : (#[.int .i64 s, .int .i64 (n : Int)] : Array Value) = (nsV [s.toNat, n]).toArray := by
    simp only [nsV, List.map_cons, List.map_nil]
    rw [Int.toNat_of_nonneg hs.1]
  rw [e] at h
  exact cnums_any _ [s.toNat, n] W (rdv_row3 h 2) (by simp; omega) (by simp)
theorem texts1 (t : ByteArray) (ht : t.size ≤ maxLen) (k : Nat) (W : World) (h : W.heap[k]? = some (.cells #[.string t] 9)) :
    Calls Tryz.prog 13 #[.slice (some ⟨k, 0, none⟩) 1 1] W fun e w' => e = .returned (.string (mk (txsB [t]))) ∧ Below W.heap.size W w' :=
  ctexts_any _ [t] W (rdv_row3 (cs := [.string t]) h 1) (by simpa using ht) (by simp)

theorem dfs_size {E : EdD} (hF : E.Fit) {s : ByteArray} (hs : s ∈ dfs E.p) : s.size ≤ maxLen := by
  obtain ⟨e, he, rfl⟩ := List.mem_map.1 hs
  have h1 := encB_small (hF.pf e he).di
  unfold encR maxLen
  split
  · show (mk (encB (stR e.d))).size ≤ _
    rw [mk_size]; omega
  · show (⟨#[]⟩ : ByteArray).size ≤ _
    decide
-- its words, generated
/-- What the operations of Encode's great region give. -/
def phE (E : EdD) (u : Value) (g : Nat) (S1 S2 S3 S4 : ByteArray) : Nat → Value → World → Prop
  | 0, v, _ => v = .pointer (some ⟨g, 0, none⟩)
  | 1, v, _ => v = .int .i64 E.c
  | 2, v, _ => v = .pointer (some ⟨g, 1, none⟩)
  | 3, v, _ => v = .int .i64 E.b
  | 4, v, _ => v = .pointer (some ⟨g, 2, none⟩)
  | 5, v, _ => v = .int .i64 E.r
  | 6, v, W => ∃ k, v = .slice (some ⟨k, 0, none⟩) 3 3 ∧ W.heap[k]? = some (.cells #[.int .i64 E.c, .int .i64 E.b, .int .i64 E.r] 3)
  | 7, v, _ => v = .string (S1)
  | 8, v, _ => v = .pointer (some ⟨g, 3, none⟩)
  | 9, v, _ => v = .string (E.t)
  | 10, v, W => ∃ k, v = .slice (some ⟨k, 0, none⟩) 1 1 ∧ W.heap[k]? = some (.cells #[.string E.t] 9)
  | 11, v, _ => v = .string (S2)
  | 12, v, _ => v = .string (S1 ++ S2)
  | 13, v, _ => v = .pointer (some ⟨g, 4, none⟩)
  | 14, v, _ => v = .int .i64 E.s
  | 15, v, _ => v = .pointer (some ⟨g, 5, none⟩)
  | 16, v, _ => v = u
  | 17, v, _ => v = .int .i64 (E.p.length : Int)
  | 18, v, W => ∃ k, v = .slice (some ⟨k, 0, none⟩) 2 2 ∧ W.heap[k]? = some (.cells #[.int .i64 E.s, .int .i64 (E.p.length : Int)] 3)
  | 19, v, _ => v = .string (S3)
  | 20, v, _ => v = .string (S1 ++ S2 ++ S3)
  | 21, v, _ => v = .pointer (some ⟨g, 5, none⟩)
  | 22, v, _ => v = u
  | 23, v, W => RdV W v ((dfs E.p).map .string) ∧ ∃ a k, v = .slice a (dfs E.p).length k
  | 24, v, _ => v = .string (S4)
  | 25, v, _ => v = .string (S1 ++ S2 ++ S3 ++ S4)
  | 26, v, _ => v = .string (S1 ++ S2 ++ S3 ++ S4)
  | _, _, _ => True
theorem phE_stays (E : EdD) (u : Value) (g : Nat) (S1 S2 S3 S4 : ByteArray) (i : Nat) (v : Value) (w w' : World) (h : phE E u g S1 S2 S3 S4 i v w) (hb : Below w.heap.size w w') : phE E u g S1 S2 S3 S4 i v w' := by
  unfold phE at h ⊢
  split at h
  all_goals first
    | exact h
    | (obtain ⟨k, e, hk⟩ := h; exact ⟨k, e, (hb.block k (EB.lt' hk)).trans hk⟩)
    | (obtain ⟨hr, e⟩ := h; exact ⟨hr.below hb, e⟩)
    | trivial
-- end of its words
set_option maxRecDepth 20000 in
set_option maxHeartbeats 4000000 in
theorem cencode_any (E : EdD) (v : Value) (w : World) (hr : RdEd w v E.p) (hV : VS w) (hF : E.Fit) :
    Calls Tryz.prog 4 #[.agg (E.fs v)] w fun e w' => e = .returned (.tuple #[.string (encE E).1, .int .i64 (encE E).2]) ∧ Below w.heap.size w w' := by
  have ht := hF.t1
  have hA := alloc_b w (.cells #[.int .i64 E.c, .int .i64 E.b, .int .i64 E.r, .string E.t, .int .i64 E.s, v] 24)
  have hE := eb_new w E v
  obtain ⟨ao, cp, rfl, -, -⟩ := id hr
  have cM := mayBe_any E _ _ (hr.below hA) (hV.below hA) hF
  unfold EdD.fs at cM ⊢
  by_cases hm : mayE E = true
  · have hM := (may_iff E).1 hm
    rw [hm] at cM
    have c1 := nums3 E.c E.b E.r ⟨by have := hM.c0; omega, by have := hM.c1; omega⟩ ⟨by have := hM.b0; omega, hM.b1⟩ ⟨hM.r0, hM.r1⟩
    have c2 := texts1 E.t (by unfold maxLen; omega)
    have c3 := nums2 E.s E.p.length ⟨hM.s0, by have := hM.s1; omega⟩ (by have := hM.p8; omega)
    have c4 := fun W (hW : Below w.heap.size w W) => cdeltas_any _ E.p W (hr.below hW) (by have := hM.p8; omega) hF.pf
    have c5 := fun u W (h : RdV W u ((dfs E.p).map .string)) => ctexts_any u (dfs E.p) W h (fun s hs => dfs_size hF hs) (by have := hM.p8; simp [dfs]; omega)
    have HF : Hid (mk (frmE E) = mk (nmB [E.c.toNat, E.b.toNat, E.r.toNat]) ++ mk (txsB [E.t]) ++ mk (nmB [E.s.toNat, E.p.length]) ++ mk (txsB (dfs E.p))) := by
      show _ = _
      unfold frmE
      rw [mk_appC, mk_appC, mk_appC]
    have z1 : (mk (nmB [E.c.toNat, E.b.toNat, E.r.toNat])).size ≤ 1000000 := by rw [mk_size]; have := nmB_len [E.c.toNat, E.b.toNat, E.r.toNat]; simp at this; omega
    have z2 : (mk (txsB [E.t])).size ≤ 1000000 := by rw [mk_size]; have := txsB_len [E.t]; simp at this; omega
    have z3 : (mk (nmB [E.s.toNat, E.p.length])).size ≤ 1000000 := by rw [mk_size]; have := nmB_len [E.s.toNat, E.p.length]; simp at this; omega
    have z4 : (mk (txsB (dfs E.p))).size ≤ 1000000 := by
      rw [mk_size]
      have := txsB_len (dfs E.p)
      have h8 := hM.p8
      have hd : (dfs E.p).length = E.p.length := by simp [dfs]
      omega
    have hZ : (mk (frmE E)).size = (frmE E).length := mk_size _
    have HL : Hid ((frmE E).length = (mk (frmE E)).size) := hZ.symm
    clear hZ
    generalize mk (nmB [E.c.toNat, E.b.toNat, E.r.toNat]) = S1 at *
    generalize mk (txsB [E.t]) = S2 at *
    generalize mk (nmB [E.s.toNat, E.p.length]) = S3 at *
    generalize mk (txsB (dfs E.p)) = S4 at *
    have y1 : ¬ 9223372036854775807 < S1.size + S2.size := by omega
    have y2 : ¬ 9223372036854775807 < S1.size + S2.size + S3.size := by omega
    have y3 : ¬ 9223372036854775807 < S1.size + S2.size + S3.size + S4.size := by omega
    go_enter Tryz.func4, Tryz.ntmps4
    go_wp2_with fail
    refine cM.mono ?_
    rintro e w1 ⟨rfl, hb1⟩
    have hE1 : w1.heap[w.heap.size]? = _ := hE.below hb1
    have hg1 := EB.lt' hE1
    have hB1 := chain hA hb1
    obtain ⟨f0, f1, f2, f3, f4, f5⟩ := cellsEB hE1
    have hBd : Below w.heap.size w w1.drew := Below.drew hB1
    clear cM hE hA hb1
    go_upto_region 3 with fail
    go_cut [4] (fun x wx => x = .string (S1 ++ S2 ++ S3 ++ S4) ∧ Below w.heap.size w wx)
    case first =>
      -- region 3, generated
      refine mono.region_mono (phE E (.slice ao E.p.length cp) w.heap.size S1 S2 S3 S4) 38 [] [0, 1, 2, 3, 4, 5, 6, 7, 8, 9, 10, 11, 12, 13, 14, 15, 16, 17, 18, 19, 20, 21, 22, 23, 24, 25, 26] (by kernel_rfl) rfl rfl (by kernel_rfl) (by kernel_rfl) (phE_stays E _ _ S1 S2 S3 S4) (.cons ?_ (.cons ?_ (.cons ?_ (.cons ?_ (.cons ?_ (.cons ?_ (.cons ?_ (.cons ?_ (.cons ?_ (.cons ?_ (.cons ?_ (.cons ?_ (.cons ?_ (.cons ?_ (.cons ?_ (.cons ?_ (.cons ?_ (.cons ?_ (.cons ?_ (.cons ?_ (.cons ?_ (.cons ?_ (.cons ?_ (.cons ?_ (.cons ?_ (.cons ?_ (.cons ?_ (.nil)))))))))))))))))))))))))))) ?_
      · refine mono.duty_of rfl ?_
        intro f W hB hO hD K hK
        have eL : mono.lit 38 f [] = ⟨#[f 0, f 1, f 2, f 3, f 4, f 5, f 6, f 7, f 8, f 9, f 10, f 11, f 12, f 13, f 14, f 15, f 16, f 17, f 18, f 19, f 20, f 21, f 22, f 23, f 24, f 25, f 26, f 27, f 28, f 29, f 30, f 31, f 32, f 33, f 34, f 35, f 36, f 37], []⟩ := rfl
        replace hK : ∀ v W', Below W.heap.size W W' → phE E (.slice ao E.p.length cp) w.heap.size S1 S2 S3 S4 0 v W' → K ((mono.lit 38 f []).put (some 8) v) W' := hK
        rw [eL] at hK ⊢
        simp only [Act.put, List.setIfInBounds_toArray, List.set_cons_succ, List.set_cons_zero] at hK
        have o1 : f 1 = .pointer (some ⟨w.heap.size, 0, none⟩) := hO 1 (by kernel_rfl)
        rw [o1] at hK ⊢
        go_simp
        exact hK _ _ (Below.refl _ _) rfl
      · refine mono.duty_of rfl ?_
        intro f W hB hO hD K hK
        have eL : mono.lit 38 f [] = ⟨#[f 0, f 1, f 2, f 3, f 4, f 5, f 6, f 7, f 8, f 9, f 10, f 11, f 12, f 13, f 14, f 15, f 16, f 17, f 18, f 19, f 20, f 21, f 22, f 23, f 24, f 25, f 26, f 27, f 28, f 29, f 30, f 31, f 32, f 33, f 34, f 35, f 36, f 37], []⟩ := rfl
        replace hK : ∀ v W', Below W.heap.size W W' → phE E (.slice ao E.p.length cp) w.heap.size S1 S2 S3 S4 1 v W' → K ((mono.lit 38 f []).put (some 9) v) W' := hK
        rw [eL] at hK ⊢
        simp only [Act.put, List.setIfInBounds_toArray, List.set_cons_succ, List.set_cons_zero] at hK
        have q0 := hD 0 8 (by kernel_rfl) (by kernel_rfl)
        replace q0 : f 8 = .pointer (some ⟨w.heap.size, 0, none⟩) := q0
        rw [q0] at hK ⊢
        obtain ⟨y0, y1', y2', y3', y4, y5⟩ := cellsEB (EB.below (W := w1.drew) hE1 hB)
        go_simp
        exact hK _ _ (Below.refl _ _) rfl
      · refine mono.duty_of rfl ?_
        intro f W hB hO hD K hK
        have eL : mono.lit 38 f [] = ⟨#[f 0, f 1, f 2, f 3, f 4, f 5, f 6, f 7, f 8, f 9, f 10, f 11, f 12, f 13, f 14, f 15, f 16, f 17, f 18, f 19, f 20, f 21, f 22, f 23, f 24, f 25, f 26, f 27, f 28, f 29, f 30, f 31, f 32, f 33, f 34, f 35, f 36, f 37], []⟩ := rfl
        replace hK : ∀ v W', Below W.heap.size W W' → phE E (.slice ao E.p.length cp) w.heap.size S1 S2 S3 S4 2 v W' → K ((mono.lit 38 f []).put (some 10) v) W' := hK
        rw [eL] at hK ⊢
        simp only [Act.put, List.setIfInBounds_toArray, List.set_cons_succ, List.set_cons_zero] at hK
        have o1 : f 1 = .pointer (some ⟨w.heap.size, 0, none⟩) := hO 1 (by kernel_rfl)
        rw [o1] at hK ⊢
        go_simp
        exact hK _ _ (Below.refl _ _) rfl
      · refine mono.duty_of rfl ?_
        intro f W hB hO hD K hK
        have eL : mono.lit 38 f [] = ⟨#[f 0, f 1, f 2, f 3, f 4, f 5, f 6, f 7, f 8, f 9, f 10, f 11, f 12, f 13, f 14, f 15, f 16, f 17, f 18, f 19, f 20, f 21, f 22, f 23, f 24, f 25, f 26, f 27, f 28, f 29, f 30, f 31, f 32, f 33, f 34, f 35, f 36, f 37], []⟩ := rfl
        replace hK : ∀ v W', Below W.heap.size W W' → phE E (.slice ao E.p.length cp) w.heap.size S1 S2 S3 S4 3 v W' → K ((mono.lit 38 f []).put (some 11) v) W' := hK
        rw [eL] at hK ⊢
        simp only [Act.put, List.setIfInBounds_toArray, List.set_cons_succ, List.set_cons_zero] at hK
        have q2 := hD 2 10 (by kernel_rfl) (by kernel_rfl)
        replace q2 : f 10 = .pointer (some ⟨w.heap.size, 1, none⟩) := q2
        rw [q2] at hK ⊢
        obtain ⟨y0, y1', y2', y3', y4, y5⟩ := cellsEB (EB.below (W := w1.drew) hE1 hB)
        go_simp
        exact hK _ _ (Below.refl _ _) rfl
      · refine mono.duty_of rfl ?_
        intro f W hB hO hD K hK
        have eL : mono.lit 38 f [] = ⟨#[f 0, f 1, f 2, f 3, f 4, f 5, f 6, f 7, f 8, f 9, f 10, f 11, f 12, f 13, f 14, f 15, f 16, f 17, f 18, f 19, f 20, f 21, f 22, f 23, f 24, f 25, f 26, f 27, f 28, f 29, f 30, f 31, f 32, f 33, f 34, f 35, f 36, f 37], []⟩ := rfl
        replace hK : ∀ v W', Below W.heap.size W W' → phE E (.slice ao E.p.length cp) w.heap.size S1 S2 S3 S4 4 v W' → K ((mono.lit 38 f []).put (some 12) v) W' := hK
        rw [eL] at hK ⊢
        simp only [Act.put, List.setIfInBounds_toArray, List.set_cons_succ, List.set_cons_zero] at hK
        have o1 : f 1 = .pointer (some ⟨w.heap.size, 0, none⟩) := hO 1 (by kernel_rfl)
        rw [o1] at hK ⊢
        go_simp
        exact hK _ _ (Below.refl _ _) rfl
      · refine mono.duty_of rfl ?_
        intro f W hB hO hD K hK
        have eL : mono.lit 38 f [] = ⟨#[f 0, f 1, f 2, f 3, f 4, f 5, f 6, f 7, f 8, f 9, f 10, f 11, f 12, f 13, f 14, f 15, f 16, f 17, f 18, f 19, f 20, f 21, f 22, f 23, f 24, f 25, f 26, f 27, f 28, f 29, f 30, f 31, f 32, f 33, f 34, f 35, f 36, f 37], []⟩ := rfl
        replace hK : ∀ v W', Below W.heap.size W W' → phE E (.slice ao E.p.length cp) w.heap.size S1 S2 S3 S4 5 v W' → K ((mono.lit 38 f []).put (some 13) v) W' := hK
        rw [eL] at hK ⊢
        simp only [Act.put, List.setIfInBounds_toArray, List.set_cons_succ, List.set_cons_zero] at hK
        have q4 := hD 4 12 (by kernel_rfl) (by kernel_rfl)
        replace q4 : f 12 = .pointer (some ⟨w.heap.size, 2, none⟩) := q4
        rw [q4] at hK ⊢
        obtain ⟨y0, y1', y2', y3', y4, y5⟩ := cellsEB (EB.below (W := w1.drew) hE1 hB)
        go_simp
        exact hK _ _ (Below.refl _ _) rfl
      · refine mono.duty_of rfl ?_
        intro f W hB hO hD K hK
        have eL : mono.lit 38 f [] = ⟨#[f 0, f 1, f 2, f 3, f 4, f 5, f 6, f 7, f 8, f 9, f 10, f 11, f 12, f 13, f 14, f 15, f 16, f 17, f 18, f 19, f 20, f 21, f 22, f 23, f 24, f 25, f 26, f 27, f 28, f 29, f 30, f 31, f 32, f 33, f 34, f 35, f 36, f 37], []⟩ := rfl
        replace hK : ∀ v W', Below W.heap.size W W' → phE E (.slice ao E.p.length cp) w.heap.size S1 S2 S3 S4 6 v W' → K ((mono.lit 38 f []).put (some 14) v) W' := hK
        rw [eL] at hK ⊢
        simp only [Act.put, List.setIfInBounds_toArray, List.set_cons_succ, List.set_cons_zero] at hK
        have q1 := hD 1 9 (by kernel_rfl) (by kernel_rfl)
        replace q1 : f 9 = .int .i64 E.c := q1
        have q3 := hD 3 11 (by kernel_rfl) (by kernel_rfl)
        replace q3 : f 11 = .int .i64 E.b := q3
        have q5 := hD 5 13 (by kernel_rfl) (by kernel_rfl)
        replace q5 : f 13 = .int .i64 E.r := q5
        rw [q1, q3, q5] at hK ⊢
        go_simp
        exact hK _ _ (alloc_b _ _) ⟨_, rfl, heap_alloc_new _ _⟩
      · refine mono.duty_of rfl ?_
        intro f W hB hO hD K hK
        have eL : mono.lit 38 f [] = ⟨#[f 0, f 1, f 2, f 3, f 4, f 5, f 6, f 7, f 8, f 9, f 10, f 11, f 12, f 13, f 14, f 15, f 16, f 17, f 18, f 19, f 20, f 21, f 22, f 23, f 24, f 25, f 26, f 27, f 28, f 29, f 30, f 31, f 32, f 33, f 34, f 35, f 36, f 37], []⟩ := rfl
        replace hK : ∀ v W', Below W.heap.size W W' → phE E (.slice ao E.p.length cp) w.heap.size S1 S2 S3 S4 7 v W' → K ((mono.lit 38 f []).put (some 15) v) W' := hK
        rw [eL] at hK ⊢
        simp only [Act.put, List.setIfInBounds_toArray, List.set_cons_succ, List.set_cons_zero] at hK
        have q6 := hD 6 14 (by kernel_rfl) (by kernel_rfl)
        obtain ⟨k6, e6, h6⟩ := q6
        rw [e6] at hK ⊢
        have cX := c1 _ _ h6
        go_simp
        refine cX.mono ?_
        rintro e w2 ⟨rfl, hb2⟩
        exact hK _ _ hb2 rfl
      · refine mono.duty_of rfl ?_
        intro f W hB hO hD K hK
        have eL : mono.lit 38 f [] = ⟨#[f 0, f 1, f 2, f 3, f 4, f 5, f 6, f 7, f 8, f 9, f 10, f 11, f 12, f 13, f 14, f 15, f 16, f 17, f 18, f 19, f 20, f 21, f 22, f 23, f 24, f 25, f 26, f 27, f 28, f 29, f 30, f 31, f 32, f 33, f 34, f 35, f 36, f 37], []⟩ := rfl
        replace hK : ∀ v W', Below W.heap.size W W' → phE E (.slice ao E.p.length cp) w.heap.size S1 S2 S3 S4 8 v W' → K ((mono.lit 38 f []).put (some 16) v) W' := hK
        rw [eL] at hK ⊢
        simp only [Act.put, List.setIfInBounds_toArray, List.set_cons_succ, List.set_cons_zero] at hK
        have o1 : f 1 = .pointer (some ⟨w.heap.size, 0, none⟩) := hO 1 (by kernel_rfl)
        rw [o1] at hK ⊢
        go_simp
        exact hK _ _ (Below.refl _ _) rfl
      · refine mono.duty_of rfl ?_
        intro f W hB hO hD K hK
        have eL : mono.lit 38 f [] = ⟨#[f 0, f 1, f 2, f 3, f 4, f 5, f 6, f 7, f 8, f 9, f 10, f 11, f 12, f 13, f 14, f 15, f 16, f 17, f 18, f 19, f 20, f 21, f 22, f 23, f 24, f 25, f 26, f 27, f 28, f 29, f 30, f 31, f 32, f 33, f 34, f 35, f 36, f 37], []⟩ := rfl
        replace hK : ∀ v W', Below W.heap.size W W' → phE E (.slice ao E.p.length cp) w.heap.size S1 S2 S3 S4 9 v W' → K ((mono.lit 38 f []).put (some 17) v) W' := hK
        rw [eL] at hK ⊢
        simp only [Act.put, List.setIfInBounds_toArray, List.set_cons_succ, List.set_cons_zero] at hK
        have q8 := hD 8 16 (by kernel_rfl) (by kernel_rfl)
        replace q8 : f 16 = .pointer (some ⟨w.heap.size, 3, none⟩) := q8
        rw [q8] at hK ⊢
        obtain ⟨y0, y1', y2', y3', y4, y5⟩ := cellsEB (EB.below (W := w1.drew) hE1 hB)
        go_simp
        exact hK _ _ (Below.refl _ _) rfl
      · refine mono.duty_of rfl ?_
        intro f W hB hO hD K hK
        have eL : mono.lit 38 f [] = ⟨#[f 0, f 1, f 2, f 3, f 4, f 5, f 6, f 7, f 8, f 9, f 10, f 11, f 12, f 13, f 14, f 15, f 16, f 17, f 18, f 19, f 20, f 21, f 22, f 23, f 24, f 25, f 26, f 27, f 28, f 29, f 30, f 31, f 32, f 33, f 34, f 35, f 36, f 37], []⟩ := rfl
        replace hK : ∀ v W', Below W.heap.size W W' → phE E (.slice ao E.p.length cp) w.heap.size S1 S2 S3 S4 10 v W' → K ((mono.lit 38 f []).put (some 18) v) W' := hK
        rw [eL] at hK ⊢
        simp only [Act.put, List.setIfInBounds_toArray, List.set_cons_succ, List.set_cons_zero] at hK
        have q9 := hD 9 17 (by kernel_rfl) (by kernel_rfl)
        replace q9 : f 17 = .string (E.t) := q9
        rw [q9] at hK ⊢
        go_simp
        exact hK _ _ (alloc_b _ _) ⟨_, rfl, heap_alloc_new _ _⟩
      · refine mono.duty_of rfl ?_
        intro f W hB hO hD K hK
        have eL : mono.lit 38 f [] = ⟨#[f 0, f 1, f 2, f 3, f 4, f 5, f 6, f 7, f 8, f 9, f 10, f 11, f 12, f 13, f 14, f 15, f 16, f 17, f 18, f 19, f 20, f 21, f 22, f 23, f 24, f 25, f 26, f 27, f 28, f 29, f 30, f 31, f 32, f 33, f 34, f 35, f 36, f 37], []⟩ := rfl
        replace hK : ∀ v W', Below W.heap.size W W' → phE E (.slice ao E.p.length cp) w.heap.size S1 S2 S3 S4 11 v W' → K ((mono.lit 38 f []).put (some 19) v) W' := hK
        rw [eL] at hK ⊢
        simp only [Act.put, List.setIfInBounds_toArray, List.set_cons_succ, List.set_cons_zero] at hK
        have q10 := hD 10 18 (by kernel_rfl) (by kernel_rfl)
        obtain ⟨k10, e10, h10⟩ := q10
        rw [e10] at hK ⊢
        have cX := c2 _ _ h10
        go_simp
        refine cX.mono ?_
        rintro e w2 ⟨rfl, hb2⟩
        exact hK _ _ hb2 rfl
      · refine mono.duty_of rfl ?_
        intro f W hB hO hD K hK
        have eL : mono.lit 38 f [] = ⟨#[f 0, f 1, f 2, f 3, f 4, f 5, f 6, f 7, f 8, f 9, f 10, f 11, f 12, f 13, f 14, f 15, f 16, f 17, f 18, f 19, f 20, f 21, f 22, f 23, f 24, f 25, f 26, f 27, f 28, f 29, f 30, f 31, f 32, f 33, f 34, f 35, f 36, f 37], []⟩ := rfl
        replace hK : ∀ v W', Below W.heap.size W W' → phE E (.slice ao E.p.length cp) w.heap.size S1 S2 S3 S4 12 v W' → K ((mono.lit 38 f []).put (some 20) v) W' := hK
        rw [eL] at hK ⊢
        simp only [Act.put, List.setIfInBounds_toArray, List.set_cons_succ, List.set_cons_zero] at hK
        have q7 := hD 7 15 (by kernel_rfl) (by kernel_rfl)
        replace q7 : f 15 = .string (S1) := q7
        have q11 := hD 11 19 (by kernel_rfl) (by kernel_rfl)
        replace q11 : f 19 = .string (S2) := q11
        rw [q7, q11] at hK ⊢
        go_simp
        exact hK _ _ (Below.refl _ _) rfl
      · refine mono.duty_of rfl ?_
        intro f W hB hO hD K hK
        have eL : mono.lit 38 f [] = ⟨#[f 0, f 1, f 2, f 3, f 4, f 5, f 6, f 7, f 8, f 9, f 10, f 11, f 12, f 13, f 14, f 15, f 16, f 17, f 18, f 19, f 20, f 21, f 22, f 23, f 24, f 25, f 26, f 27, f 28, f 29, f 30, f 31, f 32, f 33, f 34, f 35, f 36, f 37], []⟩ := rfl
        replace hK : ∀ v W', Below W.heap.size W W' → phE E (.slice ao E.p.length cp) w.heap.size S1 S2 S3 S4 13 v W' → K ((mono.lit 38 f []).put (some 21) v) W' := hK
        rw [eL] at hK ⊢
        simp only [Act.put, List.setIfInBounds_toArray, List.set_cons_succ, List.set_cons_zero] at hK
        have o1 : f 1 = .pointer (some ⟨w.heap.size, 0, none⟩) := hO 1 (by kernel_rfl)
        rw [o1] at hK ⊢
        go_simp
        exact hK _ _ (Below.refl _ _) rfl
      · refine mono.duty_of rfl ?_
        intro f W hB hO hD K hK
        have eL : mono.lit 38 f [] = ⟨#[f 0, f 1, f 2, f 3, f 4, f 5, f 6, f 7, f 8, f 9, f 10, f 11, f 12, f 13, f 14, f 15, f 16, f 17, f 18, f 19, f 20, f 21, f 22, f 23, f 24, f 25, f 26, f 27, f 28, f 29, f 30, f 31, f 32, f 33, f 34, f 35, f 36, f 37], []⟩ := rfl
        replace hK : ∀ v W', Below W.heap.size W W' → phE E (.slice ao E.p.length cp) w.heap.size S1 S2 S3 S4 14 v W' → K ((mono.lit 38 f []).put (some 22) v) W' := hK
        rw [eL] at hK ⊢
        simp only [Act.put, List.setIfInBounds_toArray, List.set_cons_succ, List.set_cons_zero] at hK
        have q13 := hD 13 21 (by kernel_rfl) (by kernel_rfl)
        replace q13 : f 21 = .pointer (some ⟨w.heap.size, 4, none⟩) := q13
        rw [q13] at hK ⊢
        obtain ⟨y0, y1', y2', y3', y4, y5⟩ := cellsEB (EB.below (W := w1.drew) hE1 hB)
        go_simp
        exact hK _ _ (Below.refl _ _) rfl
      · refine mono.duty_of rfl ?_
        intro f W hB hO hD K hK
        have eL : mono.lit 38 f [] = ⟨#[f 0, f 1, f 2, f 3, f 4, f 5, f 6, f 7, f 8, f 9, f 10, f 11, f 12, f 13, f 14, f 15, f 16, f 17, f 18, f 19, f 20, f 21, f 22, f 23, f 24, f 25, f 26, f 27, f 28, f 29, f 30, f 31, f 32, f 33, f 34, f 35, f 36, f 37], []⟩ := rfl
        replace hK : ∀ v W', Below W.heap.size W W' → phE E (.slice ao E.p.length cp) w.heap.size S1 S2 S3 S4 15 v W' → K ((mono.lit 38 f []).put (some 23) v) W' := hK
        rw [eL] at hK ⊢
        simp only [Act.put, List.setIfInBounds_toArray, List.set_cons_succ, List.set_cons_zero] at hK
        have o1 : f 1 = .pointer (some ⟨w.heap.size, 0, none⟩) := hO 1 (by kernel_rfl)
        rw [o1] at hK ⊢
        go_simp
        exact hK _ _ (Below.refl _ _) rfl
      · refine mono.duty_of rfl ?_
        intro f W hB hO hD K hK
        have eL : mono.lit 38 f [] = ⟨#[f 0, f 1, f 2, f 3, f 4, f 5, f 6, f 7, f 8, f 9, f 10, f 11, f 12, f 13, f 14, f 15, f 16, f 17, f 18, f 19, f 20, f 21, f 22, f 23, f 24, f 25, f 26, f 27, f 28, f 29, f 30, f 31, f 32, f 33, f 34, f 35, f 36, f 37], []⟩ := rfl
        replace hK : ∀ v W', Below W.heap.size W W' → phE E (.slice ao E.p.length cp) w.heap.size S1 S2 S3 S4 16 v W' → K ((mono.lit 38 f []).put (some 24) v) W' := hK
        rw [eL] at hK ⊢
        simp only [Act.put, List.setIfInBounds_toArray, List.set_cons_succ, List.set_cons_zero] at hK
        have q15 := hD 15 23 (by kernel_rfl) (by kernel_rfl)
        replace q15 : f 23 = .pointer (some ⟨w.heap.size, 5, none⟩) := q15
        rw [q15] at hK ⊢
        obtain ⟨y0, y1', y2', y3', y4, y5⟩ := cellsEB (EB.below (W := w1.drew) hE1 hB)
        go_simp
        exact hK _ _ (Below.refl _ _) rfl
      · refine mono.duty_of rfl ?_
        intro f W hB hO hD K hK
        have eL : mono.lit 38 f [] = ⟨#[f 0, f 1, f 2, f 3, f 4, f 5, f 6, f 7, f 8, f 9, f 10, f 11, f 12, f 13, f 14, f 15, f 16, f 17, f 18, f 19, f 20, f 21, f 22, f 23, f 24, f 25, f 26, f 27, f 28, f 29, f 30, f 31, f 32, f 33, f 34, f 35, f 36, f 37], []⟩ := rfl
        replace hK : ∀ v W', Below W.heap.size W W' → phE E (.slice ao E.p.length cp) w.heap.size S1 S2 S3 S4 17 v W' → K ((mono.lit 38 f []).put (some 25) v) W' := hK
        rw [eL] at hK ⊢
        simp only [Act.put, List.setIfInBounds_toArray, List.set_cons_succ, List.set_cons_zero] at hK
        have q16 := hD 16 24 (by kernel_rfl) (by kernel_rfl)
        replace q16 : f 24 = (.slice ao E.p.length cp) := q16
        rw [q16] at hK ⊢
        go_simp
        exact hK _ _ (Below.refl _ _) rfl
      · refine mono.duty_of rfl ?_
        intro f W hB hO hD K hK
        have eL : mono.lit 38 f [] = ⟨#[f 0, f 1, f 2, f 3, f 4, f 5, f 6, f 7, f 8, f 9, f 10, f 11, f 12, f 13, f 14, f 15, f 16, f 17, f 18, f 19, f 20, f 21, f 22, f 23, f 24, f 25, f 26, f 27, f 28, f 29, f 30, f 31, f 32, f 33, f 34, f 35, f 36, f 37], []⟩ := rfl
        replace hK : ∀ v W', Below W.heap.size W W' → phE E (.slice ao E.p.length cp) w.heap.size S1 S2 S3 S4 18 v W' → K ((mono.lit 38 f []).put (some 26) v) W' := hK
        rw [eL] at hK ⊢
        simp only [Act.put, List.setIfInBounds_toArray, List.set_cons_succ, List.set_cons_zero] at hK
        have q14 := hD 14 22 (by kernel_rfl) (by kernel_rfl)
        replace q14 : f 22 = .int .i64 E.s := q14
        have q17 := hD 17 25 (by kernel_rfl) (by kernel_rfl)
        replace q17 : f 25 = .int .i64 (E.p.length : Int) := q17
        rw [q14, q17] at hK ⊢
        go_simp
        exact hK _ _ (alloc_b _ _) ⟨_, rfl, heap_alloc_new _ _⟩
      · refine mono.duty_of rfl ?_
        intro f W hB hO hD K hK
        have eL : mono.lit 38 f [] = ⟨#[f 0, f 1, f 2, f 3, f 4, f 5, f 6, f 7, f 8, f 9, f 10, f 11, f 12, f 13, f 14, f 15, f 16, f 17, f 18, f 19, f 20, f 21, f 22, f 23, f 24, f 25, f 26, f 27, f 28, f 29, f 30, f 31, f 32, f 33, f 34, f 35, f 36, f 37], []⟩ := rfl
        replace hK : ∀ v W', Below W.heap.size W W' → phE E (.slice ao E.p.length cp) w.heap.size S1 S2 S3 S4 19 v W' → K ((mono.lit 38 f []).put (some 27) v) W' := hK
        rw [eL] at hK ⊢
        simp only [Act.put, List.setIfInBounds_toArray, List.set_cons_succ, List.set_cons_zero] at hK
        have q18 := hD 18 26 (by kernel_rfl) (by kernel_rfl)
        obtain ⟨k18, e18, h18⟩ := q18
        rw [e18] at hK ⊢
        have cX := c3 _ _ h18
        go_simp
        refine cX.mono ?_
        rintro e w2 ⟨rfl, hb2⟩
        exact hK _ _ hb2 rfl
      · refine mono.duty_of rfl ?_
        intro f W hB hO hD K hK
        have eL : mono.lit 38 f [] = ⟨#[f 0, f 1, f 2, f 3, f 4, f 5, f 6, f 7, f 8, f 9, f 10, f 11, f 12, f 13, f 14, f 15, f 16, f 17, f 18, f 19, f 20, f 21, f 22, f 23, f 24, f 25, f 26, f 27, f 28, f 29, f 30, f 31, f 32, f 33, f 34, f 35, f 36, f 37], []⟩ := rfl
        replace hK : ∀ v W', Below W.heap.size W W' → phE E (.slice ao E.p.length cp) w.heap.size S1 S2 S3 S4 20 v W' → K ((mono.lit 38 f []).put (some 28) v) W' := hK
        rw [eL] at hK ⊢
        simp only [Act.put, List.setIfInBounds_toArray, List.set_cons_succ, List.set_cons_zero] at hK
        have q12 := hD 12 20 (by kernel_rfl) (by kernel_rfl)
        replace q12 : f 20 = .string (S1 ++ S2) := q12
        have q19 := hD 19 27 (by kernel_rfl) (by kernel_rfl)
        replace q19 : f 27 = .string (S3) := q19
        rw [q12, q19] at hK ⊢
        go_simp
        exact hK _ _ (Below.refl _ _) rfl
      · refine mono.duty_of rfl ?_
        intro f W hB hO hD K hK
        have eL : mono.lit 38 f [] = ⟨#[f 0, f 1, f 2, f 3, f 4, f 5, f 6, f 7, f 8, f 9, f 10, f 11, f 12, f 13, f 14, f 15, f 16, f 17, f 18, f 19, f 20, f 21, f 22, f 23, f 24, f 25, f 26, f 27, f 28, f 29, f 30, f 31, f 32, f 33, f 34, f 35, f 36, f 37], []⟩ := rfl
        replace hK : ∀ v W', Below W.heap.size W W' → phE E (.slice ao E.p.length cp) w.heap.size S1 S2 S3 S4 21 v W' → K ((mono.lit 38 f []).put (some 29) v) W' := hK
        rw [eL] at hK ⊢
        simp only [Act.put, List.setIfInBounds_toArray, List.set_cons_succ, List.set_cons_zero] at hK
        have o1 : f 1 = .pointer (some ⟨w.heap.size, 0, none⟩) := hO 1 (by kernel_rfl)
        rw [o1] at hK ⊢
        go_simp
        exact hK _ _ (Below.refl _ _) rfl
      · refine mono.duty_of rfl ?_
        intro f W hB hO hD K hK
        have eL : mono.lit 38 f [] = ⟨#[f 0, f 1, f 2, f 3, f 4, f 5, f 6, f 7, f 8, f 9, f 10, f 11, f 12, f 13, f 14, f 15, f 16, f 17, f 18, f 19, f 20, f 21, f 22, f 23, f 24, f 25, f 26, f 27, f 28, f 29, f 30, f 31, f 32, f 33, f 34, f 35, f 36, f 37], []⟩ := rfl
        replace hK : ∀ v W', Below W.heap.size W W' → phE E (.slice ao E.p.length cp) w.heap.size S1 S2 S3 S4 22 v W' → K ((mono.lit 38 f []).put (some 30) v) W' := hK
        rw [eL] at hK ⊢
        simp only [Act.put, List.setIfInBounds_toArray, List.set_cons_succ, List.set_cons_zero] at hK
        have q21 := hD 21 29 (by kernel_rfl) (by kernel_rfl)
        replace q21 : f 29 = .pointer (some ⟨w.heap.size, 5, none⟩) := q21
        rw [q21] at hK ⊢
        obtain ⟨y0, y1', y2', y3', y4, y5⟩ := cellsEB (EB.below (W := w1.drew) hE1 hB)
        go_simp
        exact hK _ _ (Below.refl _ _) rfl
      · refine mono.duty_of rfl ?_
        intro f W hB hO hD K hK
        have eL : mono.lit 38 f [] = ⟨#[f 0, f 1, f 2, f 3, f 4, f 5, f 6, f 7, f 8, f 9, f 10, f 11, f 12, f 13, f 14, f 15, f 16, f 17, f 18, f 19, f 20, f 21, f 22, f 23, f 24, f 25, f 26, f 27, f 28, f 29, f 30, f 31, f 32, f 33, f 34, f 35, f 36, f 37], []⟩ := rfl
        replace hK : ∀ v W', Below W.heap.size W W' → phE E (.slice ao E.p.length cp) w.heap.size S1 S2 S3 S4 23 v W' → K ((mono.lit 38 f []).put (some 31) v) W' := hK
        rw [eL] at hK ⊢
        simp only [Act.put, List.setIfInBounds_toArray, List.set_cons_succ, List.set_cons_zero] at hK
        have q22 := hD 22 30 (by kernel_rfl) (by kernel_rfl)
        replace q22 : f 30 = (.slice ao E.p.length cp) := q22
        rw [q22] at hK ⊢
        have cX := c4 W (chain hBd hB)
        go_simp
        refine cX.mono ?_
        rintro e w2 ⟨u2, rfl, ho2, hb2⟩
        exact hK _ _ hb2 ⟨rdv_own ho2, own_form ho2⟩
      · refine mono.duty_of rfl ?_
        intro f W hB hO hD K hK
        have eL : mono.lit 38 f [] = ⟨#[f 0, f 1, f 2, f 3, f 4, f 5, f 6, f 7, f 8, f 9, f 10, f 11, f 12, f 13, f 14, f 15, f 16, f 17, f 18, f 19, f 20, f 21, f 22, f 23, f 24, f 25, f 26, f 27, f 28, f 29, f 30, f 31, f 32, f 33, f 34, f 35, f 36, f 37], []⟩ := rfl
        replace hK : ∀ v W', Below W.heap.size W W' → phE E (.slice ao E.p.length cp) w.heap.size S1 S2 S3 S4 24 v W' → K ((mono.lit 38 f []).put (some 32) v) W' := hK
        rw [eL] at hK ⊢
        simp only [Act.put, List.setIfInBounds_toArray, List.set_cons_succ, List.set_cons_zero] at hK
        have q23 := hD 23 31 (by kernel_rfl) (by kernel_rfl)
        obtain ⟨hv, av, kv, ev⟩ := q23
        rw [ev] at hv
        rw [ev] at hK ⊢
        have cX := c5 _ _ hv
        go_simp
        refine cX.mono ?_
        rintro e w2 ⟨rfl, hb2⟩
        exact hK _ _ hb2 rfl
      · refine mono.duty_of rfl ?_
        intro f W hB hO hD K hK
        have eL : mono.lit 38 f [] = ⟨#[f 0, f 1, f 2, f 3, f 4, f 5, f 6, f 7, f 8, f 9, f 10, f 11, f 12, f 13, f 14, f 15, f 16, f 17, f 18, f 19, f 20, f 21, f 22, f 23, f 24, f 25, f 26, f 27, f 28, f 29, f 30, f 31, f 32, f 33, f 34, f 35, f 36, f 37], []⟩ := rfl
        replace hK : ∀ v W', Below W.heap.size W W' → phE E (.slice ao E.p.length cp) w.heap.size S1 S2 S3 S4 25 v W' → K ((mono.lit 38 f []).put (some 33) v) W' := hK
        rw [eL] at hK ⊢
        simp only [Act.put, List.setIfInBounds_toArray, List.set_cons_succ, List.set_cons_zero] at hK
        have q20 := hD 20 28 (by kernel_rfl) (by kernel_rfl)
        replace q20 : f 28 = .string (S1 ++ S2 ++ S3) := q20
        have q24 := hD 24 32 (by kernel_rfl) (by kernel_rfl)
        replace q24 : f 32 = .string (S4) := q24
        rw [q20, q24] at hK ⊢
        go_simp
        exact hK _ _ (Below.refl _ _) rfl
      · refine mono.duty_of rfl ?_
        intro f W hB hO hD K hK
        have eL : mono.lit 38 f [] = ⟨#[f 0, f 1, f 2, f 3, f 4, f 5, f 6, f 7, f 8, f 9, f 10, f 11, f 12, f 13, f 14, f 15, f 16, f 17, f 18, f 19, f 20, f 21, f 22, f 23, f 24, f 25, f 26, f 27, f 28, f 29, f 30, f 31, f 32, f 33, f 34, f 35, f 36, f 37], []⟩ := rfl
        replace hK : ∀ v W', Below W.heap.size W W' → phE E (.slice ao E.p.length cp) w.heap.size S1 S2 S3 S4 26 v W' → K ((mono.lit 38 f []).put (some 4) v) W' := hK
        rw [eL] at hK ⊢
        simp only [Act.put, List.setIfInBounds_toArray, List.set_cons_succ, List.set_cons_zero] at hK
        have q25 := hD 25 33 (by kernel_rfl) (by kernel_rfl)
        replace q25 : f 33 = .string (S1 ++ S2 ++ S3 ++ S4) := q25
        rw [q25] at hK ⊢
        go_simp
        exact hK _ _ (Below.refl _ _) rfl
      · intro f W hB hO hD
        have q := hD 26 4 (by kernel_rfl)
        replace q : f 4 = .string (S1 ++ S2 ++ S3 ++ S4) := q
        have eL : mono.lit 38 f [] = ⟨#[f 0, f 1, f 2, f 3, f 4, f 5, f 6, f 7, f 8, f 9, f 10, f 11, f 12, f 13, f 14, f 15, f 16, f 17, f 18, f 19, f 20, f 21, f 22, f 23, f 24, f 25, f 26, f 27, f 28, f 29, f 30, f 31, f 32, f 33, f 34, f 35, f 36, f 37], []⟩ := rfl
        have o0 : f 0 = .agg #[.int .i64 E.c, .int .i64 E.b, .int .i64 E.r, .string E.t, .int .i64 E.s, .slice ao E.p.length cp] := hO 0 (by kernel_rfl)
        have o1 : f 1 = .pointer (some ⟨w.heap.size, 0, none⟩) := hO 1 (by kernel_rfl)
        have o2 : f 2 = .string ⟨#[]⟩ := hO 2 (by kernel_rfl)
        have o3 : f 3 = .int .i64 0 := hO 3 (by kernel_rfl)
        rw [eL, q, o0, o1, o2, o3]
        go_wp2_with fail
        go_meet
        exact ⟨rfl, chain hBd hB⟩
      -- end of region 3
    case rest =>
      obtain ⟨rfl, hbx⟩ := hcut
      rw [← HF.out]
      have h4 : encE E = (if 40000 < (mk (frmE E)).size then (⟨#[]⟩, 201) else (mk (frmE E), 0)) := by unfold encE; rw [if_pos hm, ← HL.out]
      have H4 : Hid (encE E = _) := h4
      clear h4
      by_cases hz : 40000 < (mk (frmE E)).size
      · have H5 : Hid (encE E = (⟨#[]⟩, 201)) := by
          have := H4.out
          rw [if_pos hz] at this
          exact this
        go_wp2_with fail
        go_ret2
        rw [H5.out]
        exact ⟨rfl, hbx⟩
      · have H5 : Hid (encE E = (mk (frmE E), 0)) := by
          have := H4.out
          rw [if_neg hz] at this
          exact this
        go_wp2_with fail
        go_ret2
        rw [H5.out]
        exact ⟨rfl, hbx⟩
  · have hm' : mayE E = false := by simpa using hm
    have H5 : Hid (encE E = (⟨#[]⟩, 200)) := if_neg hm
    rw [hm'] at cM
    clear hm hm'
    go_enter Tryz.func4, Tryz.ntmps4
    go_wp2_with fail
    refine cM.mono ?_
    rintro e w1 ⟨rfl, hb1⟩
    have hB1 := chain hA hb1
    go_wp2_with fail
    go_ret2
    rw [H5.out]
    exact ⟨rfl, hB1⟩
end Go.Proofs.YtcdnlkhjlgaaoaaGreatDoor
