/-
  The contract of takeNums.
-/
import Derived.Test.YtgceileakcjmdaaWrE
import Derived.Laws.Tables
namespace Go.Proofs.Ytgceileakcjmdaa
open Go.ChangeShapes Go.WideShapes Go.ChangeAt Go.RowKit Go.PlainAid

section
variable {P : Program} {ops : Array Oper} {rest : List Oper} {o : Oper} {a : Act} {w : World} {Q : Exit → Act → World → Prop}
theorem at_load (t : TypeId) (x : Operand) (_ : o.op = Op.load t x) (h : wpList P ops Q (o :: rest) a w) : wpList P ops Q (o :: rest) a w := h
theorem at_store (t : TypeId) (x y : Operand) (_ : o.op = Op.store t x y) (h : wpList P ops Q (o :: rest) a w) : wpList P ops Q (o :: rest) a w := h
end
theorem results_cell2 {P : Program} {fn : Func} {p a : Tmp} {ty : TypeId} (h : fn.results = #[.cell p ty, .tmp a]) (tmps : Array Value) (w : World) (g : Nat) (t : TypeId) (cs : Array Value) (fr : Nat × Nat) (d : TypeDesc)
    (hp : tmps.getD p undef = .pointer (some ⟨g, 0, none⟩)) (hg : w.heap[g]? = some (.cells cs t fr))
    (hu : P.underlying ty = some d) (hd : (match d with | .struct _ | .array _ _ => true | _ => false) = true) (hi : (P.info? ty).map (·.size) = some cs.size) (x : Value) (hx : tmps.getD a undef = x) :
    (results fn tmps).run P w = .ok (.tuple #[.agg cs, x]) w := by
  have hp' : tmps[p]?.getD undef = .pointer (some ⟨g, 0, none⟩) := by simpa using hp
  have hx' : tmps[a]?.getD undef = x := by simpa using hx
  simp [results, h, hp', hx', asAddr, run_loadVar_row w g t ty cs fr d hg hu hd hi]
theorem results_cell3 {P : Program} {fn : Func} {p a b : Tmp} {ty : TypeId} (h : fn.results = #[.cell p ty, .tmp a, .tmp b]) (tmps : Array Value) (w : World) (g : Nat) (t : TypeId) (cs : Array Value) (fr : Nat × Nat) (d : TypeDesc)
    (hp : tmps.getD p undef = .pointer (some ⟨g, 0, none⟩)) (hg : w.heap[g]? = some (.cells cs t fr))
    (hu : P.underlying ty = some d) (hd : (match d with | .struct _ | .array _ _ => true | _ => false) = true) (hi : (P.info? ty).map (·.size) = some cs.size) (x y : Value) (hx : tmps.getD a undef = x) (hy : tmps.getD b undef = y) :
    (results fn tmps).run P w = .ok (.tuple #[.agg cs, x, y]) w := by
  have hp' : tmps[p]?.getD undef = .pointer (some ⟨g, 0, none⟩) := by simpa using hp
  have hx' : tmps[a]?.getD undef = x := by simpa using hx
  have hy' : tmps[b]?.getD undef = y := by simpa using hy
  simp [results, h, hp', hx', hy', asAddr, run_loadVar_row w g t ty cs fr d hg hu hd hi]

theorem Try.sizeMs : (Try.prog.info? 24).map (·.size) = some 7 := by kernel_rfl
theorem store_ms {ops : Array Oper} {rest : List Oper} {o : Oper} {a : Act} {w : World} {Q : Exit → Act → World → Prop} (hgd : o.guard = none) (x y : Operand) (ho : o.op = .store 24 x y)
    (g : Nat) (cs old : Array Value) (hx : a.eval x = .pointer (some ⟨g, 0, none⟩)) (hy : a.eval y = .agg cs) (hg : w.heap[g]? = some (.cells old 24)) (h7 : old.size = 7) (h8 : cs.size = 7) (h1 : cs.all (·.oneCell') = true)
    (h : wpList Try.prog ops Q rest (a.put o.dst undef) (w.setRow g cs)) : wpList Try.prog ops Q (o :: rest) a w :=
  wpList_store_row hgd 24 x y ho g cs hx hy 24 old hg (by rw [h8]; exact Try.sizeMs) (by rw [h7, h8]) h1 h
/-- No message. -/
def zM : MsD := ⟨0, 0, 0, 0, 0, 0, []⟩
/-- What takeNums reads. -/
def tnR (s : ByteArray) : MsD × Int × Bool :=
  if (tkF s [0] zM 0).2.2 = true then tkF s (bkF (tkF s [0] zM 0).1.k) (tkF s [0] zM 0).1 (tkF s [0] zM 0).2.1 else tkF s [0] zM 0

theorem fs_one (m : MsD) (v : Value) (h : v.oneCell' = true) : (m.fs v).all (·.oneCell') = true := by
  have : ∀ k x, (Value.int k x).oneCell' = true := fun _ _ => rfl
  simp [MsD.fs, h, this]

theorem below_row {base : Nat} {w W : World} {g : Nat} {cs : Array Value} (h : Below base w W) (hg : base ≤ g) (hw : base ≤ W.heap.size) : Below base w (W.setRow g cs) :=
  h.grown (row := some g) ⟨rfl, rfl, rfl, by simp, fun k _ hk => setRow_other W g k cs (fun e => hk (by rw [e]))⟩ hw (fun k hk => by simp at hk; omega)

set_option maxRecDepth 20000 in
set_option maxHeartbeats 1000000 in
theorem takeNums_any (s : ByteArray) (w : World) (hs : s.size ≤ maxLen) :
    Calls Try.prog 29 #[.string s] w fun e w' => e = .returned (.tuple #[.agg ((tnR s).1.fs (.slice none 0 0)), .int .i64 (tnR s).2.1, .bool (tnR s).2.2]) ∧ Below w.heap.size w w' := by
  have hZ : Below w.heap.size w (w.alloc (.cells (zM.fs (.slice none 0 0)) 24)) := (Below.refl _ w).alloc (Nat.le_refl _) _
  have hr0 : MB _ _ zM (.slice none 0 0) := heap_alloc_new w (.cells (zM.fs (.slice none 0 0)) 24)
  have hs0 : (w.alloc (.cells (zM.fs (.slice none 0 0)) 24)).heap.size = w.heap.size + 1 := by simp
  have hx0 : MB _ _ zM (.slice none 0 0) := heap_alloc_new (w.alloc (.cells (zM.fs (.slice none 0 0)) 24)) (.cells (zM.fs (.slice none 0 0)) 24)
  have hr1 := hr0.alloc (.cells (zM.fs (.slice none 0 0)) 24)
  have hs1 : ((w.alloc (.cells (zM.fs (.slice none 0 0)) 24)).alloc (.cells (zM.fs (.slice none 0 0)) 24)).heap.size = w.heap.size + 2 := by simp
  have hZ1 := hZ.alloc (by omega) (.cells (zM.fs (.slice none 0 0)) 24)
  rw [hs0] at hx0
  clear hr0 hs0 hZ
  unfold MsD.fs zM at hs1 hx0 hr1 hZ1
  go_enter Try.func29, Try.ntmps29
  go_wp2_with fail
  generalize (w.alloc _).alloc _ = w1 at *
  have hu := own_lit w1 (w.heap.size + 1) 42 (ptV (w.heap.size + 1) [0]) 1 (by omega) rfl (by decide)
  rw [hs1] at hu
  have ht := take_any (w.heap.size + 1) (w.heap.size + 1) _ (.slice none 0 0) zM [0] s 0 _ hs (Nat.le_refl _) (MB.alloc (m := zM) hx0 _) (by decide) (by decide) hu
  have HT : Hid (tnR s = if (tkF s [0] zM 0).2.2 = true then tkF s (bkF (tkF s [0] zM 0).1.k) (tkF s [0] zM 0).1 (tkF s [0] zM 0).2.1 else tkF s [0] zM 0) := rfl
  refine ht.mono ?_
  clear ht
  rintro e w2 ⟨rfl, hx2, hb2⟩
  have hb2' : Below (w.heap.size + 1) w1 w2 := ((Below.refl _ _).alloc (by omega) _).trans hb2
  have hr2 : MB w2 w.heap.size zM (.slice none 0 0) := (hb2'.block w.heap.size (by omega)).trans hr1
  have hB2 : Below w.heap.size w w2 := hZ1.trans (hb2'.mono (by omega))
  have hs2 := hb2'.size
  clear hb2 hb2' hr1 hZ1 hx0 hu
  generalize tkF s [0] zM 0 = T at *
  obtain ⟨m1, a1, o1⟩ := T
  simp only at HT hx2
  simp only
  cases o1
  · have HF : Hid (tnR s = (m1, a1, false)) := HT
    clear HT
    have hone := fs_one m1 (.slice none 0 0) rfl
    have hfin := setRow_heap _ _ _ (m1.fs (.slice none 0 0)) _ _ hr2
    have hBf : Below w.heap.size w (w2.setRow w.heap.size (m1.fs (.slice none 0 0))) := below_row hB2 (Nat.le_refl _) (by have := hB2.size; omega)
    have hsz : (m1.fs (.slice none 0 0)).size = 7 := rfl
    unfold MB at hx2 hr2
    have HG : Hid (Value.agg (tnR s |>.1.fs (.slice none 0 0)) = .agg (m1.fs (.slice none 0 0))) := by show _ = _; rw [HF.out]
    generalize m1.fs (.slice none 0 0) = cs at *
    have hsi : (Try.prog.info? 24).map (·.size) = some cs.size := by rw [hsz]; exact Try.sizeMs
    go_wp2_with (first | (with_reducible refine at_load 24 _ rfl ?_; refine wpList_load_row rfl 24 _ rfl (w.heap.size + 1) rfl 24 _ _ _ hx2 Try.underlying24 rfl hsi ?_) | (with_reducible refine at_store 24 _ _ rfl ?_; refine store_ms rfl _ _ rfl w.heap.size cs (zM.fs (.slice none 0 0)) rfl rfl hr2 rfl hsz hone ?_))
    refine bodyPost_ret (results_cell3 rfl _ _ w.heap.size 24 _ (0, 0) _ rfl hfin Try.underlying24 rfl hsi (.int .i64 a1) (.bool false) rfl rfl) rfl ?_
    refine ⟨?_, hBf⟩
    rw [HG.out, HF.out]
  have HT2 : Hid (tnR s = tkF s (bkF m1.k) m1 a1) := HT
  clear HT
  have hk := behindKind_any (w.heap.size + 1) m1 _ w2 hx2
  go_wp2_with fail
  refine hk.mono ?_
  clear hk
  rintro e w3 ⟨u3, rfl, hu3, hb3⟩
  have hx3 := hx2.below hb3
  have hr3 := hr2.below hb3
  have hB3 := hB2.trans (hb3.mono hB2.size)
  have hs3 := hb3.size
  have ht := take_any (w.heap.size + 1) (w.heap.size + 1) u3 (.slice none 0 0) m1 (bkF m1.k) s a1 w3 hs (Nat.le_refl _) hx3 (bkF_le _) (by have := bkF_len m1.k; omega) (own_lower hu3 (by omega))
  clear hx2 hr2 hB2 hb3 hu3 hx3
  go_wp2_with fail
  refine ht.mono ?_
  clear ht
  rintro e w4 ⟨rfl, hx4, hb4⟩
  have hr4 : MB w4 w.heap.size zM (.slice none 0 0) := (hb4.block w.heap.size (by omega)).trans hr3
  have hB4 := hB3.trans (hb4.mono (by omega))
  clear hB3 hb4 hr3
  generalize tkF s (bkF m1.k) m1 a1 = T at *
  obtain ⟨m2, a2, o2⟩ := T
  simp only at hx4
  simp only
  have HF : Hid (tnR s = (m2, a2, o2)) := HT2
  clear HT2
  have hone := fs_one m2 (.slice none 0 0) rfl
  have hfin := setRow_heap _ _ _ (m2.fs (.slice none 0 0)) _ _ hr4
  have hBf : Below w.heap.size w (w4.setRow w.heap.size (m2.fs (.slice none 0 0))) := below_row hB4 (Nat.le_refl _) (by have := hB4.size; omega)
  have hsz : (m2.fs (.slice none 0 0)).size = 7 := rfl
  unfold MB at hx4 hr4
  have HG : Hid (Value.agg (tnR s |>.1.fs (.slice none 0 0)) = .agg (m2.fs (.slice none 0 0))) := by show _ = _; rw [HF.out]
  generalize m2.fs (.slice none 0 0) = cs at *
  have hsi : (Try.prog.info? 24).map (·.size) = some cs.size := by rw [hsz]; exact Try.sizeMs
  go_wp2_with (first | (with_reducible refine at_load 24 _ rfl ?_; refine wpList_load_row rfl 24 _ rfl (w.heap.size + 1) rfl 24 _ _ _ hx4 Try.underlying24 rfl hsi ?_) | (with_reducible refine at_store 24 _ _ rfl ?_; refine store_ms rfl _ _ rfl w.heap.size cs (zM.fs (.slice none 0 0)) rfl rfl hr4 rfl hsz hone ?_))
  refine bodyPost_ret (results_cell3 rfl _ _ w.heap.size 24 _ (0, 0) _ rfl hfin Try.underlying24 rfl hsi (.int .i64 a2) (.bool o2) rfl rfl) rfl ?_
  refine ⟨?_, hBf⟩
  rw [HG.out, HF.out]
end Go.Proofs.Ytgceileakcjmdaa
