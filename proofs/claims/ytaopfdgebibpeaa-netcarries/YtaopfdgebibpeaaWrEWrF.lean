/-
  The contracts of take and takeNums.
-/
import Derived.Test.YtaopfdgebibpeaaWrD
import Derived.Laws.Tables
namespace Go.Proofs.Ytaopfdgebibpeaa
open Go.ChangeShapes Go.WideShapes Go.ChangeAt Go.RowKit Go.PlainAid

/-- A message with one field set. -/
def MsD.set (m : MsD) (f : Nat) (x : Int) : MsD :=
  match f with
  | 0 => { m with k := x }
  | 1 => { m with b := x }
  | 2 => { m with c := x }
  | 3 => { m with s := x }
  | 4 => { m with r := x }
  | 5 => { m with y := x }
  | _ => m
theorem mb_set {W : World} {p : Nat} {m : MsD} {v : Value} (h : MB W p m v) (f : Nat) (hf : f ≤ 5) (x : Int) : MB (W.setCell ⟨p, f, none⟩ (.int .i64 x)) p (m.set f x) v := by
  have h1 := heap_setCell h f (.int .i64 x)
  match f, hf with
  | 0, _ => exact h1
  | 1, _ => exact h1
  | 2, _ => exact h1
  | 3, _ => exact h1
  | 4, _ => exact h1
  | 5, _ => exact h1

/-- The greatest number of pack. -/
abbrev big : Int := 1125899906842624
/-- What take reads: fields one behind the other. -/
def tkF (s : ByteArray) : List Nat → MsD → Int → MsD × Int × Bool
  | [], m, a => (m, a, true)
  | f :: fs, m, a => if (pk.tk s a big).2.2 = 0 then tkF s fs (m.set f (pk.tk s a big).1) (pk.tk s a big).2.1 else (m.set f (pk.tk s a big).1, 0, false)
theorem ret_tk {a b : Int} {x y : Bool} (h1 : a = b) (h2 : x = y) : Ending.returned (.tuple #[.int .i64 a, .bool x]) = .returned (.tuple #[.int .i64 b, .bool y]) := by rw [h1, h2]

set_option maxRecDepth 20000 in
set_option maxHeartbeats 1000000 in
theorem take_any (base p : Nat) (u v : Value) (m : MsD) (fs : List Nat) (s : ByteArray) (a : Int) (w : World) (hs : s.size ≤ maxLen) (hbp : base ≤ p) (hM : MB w p m v) (hf : ∀ f ∈ fs, f ≤ 5) (hl : fs.length ≤ 10)
    (hu : w.ownsRow base 56 1 u fs.length (ptV p fs)) :
    Calls Try.prog 38 #[.string s, .int .i64 a, u] w fun e w' => e = .returned (.tuple #[.int .i64 (tkF s fs m a).2.1, .bool (tkF s fs m a).2.2]) ∧ MB w' p (tkF s fs m a).1 v ∧ Below base w w' := by
  obtain ⟨ao, cp, rfl⟩ := own_form hu
  have hp := heap_lt hM
  go_enter Try.func38, Try.ntmps38
  go_wp2
  go_loopw [1, 13] (fun x i wr => ∃ (k : Nat) (m' : MsD) (a' : Int), k ≤ fs.length ∧ x = .int .i64 a' ∧ i = .int .i64 (k : Int) ∧ tkF s fs m a = tkF s (fs.drop k) m' a' ∧ MB wr p m' v ∧ wr.ownsRow base 56 1 (.slice ao fs.length cp) fs.length (ptV p fs) ∧ Below base w wr) (fun _ i _ => fs.length - (intOf i).toNat)
  case atStart => exact ⟨0, m, a, by omega, rfl, rfl, rfl, hM, hu, Below.refl _ _⟩
  case round =>
    obtain ⟨k, m', a', hk, rfl, rfl, hE, hM', hu', hbl⟩ := hrel
    have HE : Hid (tkF s fs m a = tkF s (fs.drop k) m' a') := hE
    clear hM hu hE
    by_cases hlt : k < fs.length
    · have hlt' : (k : Int) < (fs.length : Int) := by omega
      have c0 : ∃ g, ao = some ⟨g, 0, none⟩ ∧ wr.cell? ⟨g, k, none⟩ = some (.pointer (some ⟨p, fs[k], none⟩)) := by
        rcases hu'.2 with ⟨e, h⟩ | ⟨g, cap, cur, e, -⟩
        · omega
        · injection e with e1 e2 e3
          subst e1
          refine ⟨g, rfl, ?_⟩
          have := hu'.cells (g := g) rfl k (.pointer (some ⟨p, fs[k], none⟩)) (by simp [ptV, hlt])
          rw [addr_add, Nat.zero_add] at this
          exact this
      obtain ⟨g, rfl, c0⟩ := c0
      have hD : fs.drop k = fs[k] :: fs.drop (k + 1) := List.drop_eq_getElem_cons hlt
      have hf5 := hf fs[k] (List.getElem_mem hlt)
      have H1 : Hid ((pk.tk s a' big).2.2 = 0 → tkF s fs m a = tkF s (fs.drop (k + 1)) (m'.set fs[k] (pk.tk s a' big).1) (pk.tk s a' big).2.1) := fun h0 => by rw [HE.out, hD, tkF, if_pos h0]
      have H2 : Hid ((pk.tk s a' big).2.2 ≠ 0 → tkF s fs m a = (m'.set fs[k] (pk.tk s a' big).1, 0, false)) := fun h0 => by rw [HE.out, hD, tkF, if_neg h0]
      have ht := pk.takeNum_any s a' wr hs
      have cf := hM'.cell fs[k] hf5
      have hz := frz hM' fs[k]
      have hM2 := mb_set hM' fs[k] hf5 (pk.tk s a' big).1
      have hu2 := own_set (j := fs[k]) (x := .int .i64 (pk.tk s a' big).1) hu' hM' (by decide)
      have hw := hM'
      have hpp := heap_lt hM'
      have hb2 : Below base w (wr.setCell ⟨p, fs[k], none⟩ (.int .i64 (pk.tk s a' big).1)) := below_set hbl hbp (by omega)
      clear hD HE hM' hu' hw
      generalize fs[k] = f at *
      generalize pk.tk s a' big = R at *
      obtain ⟨r1, r2, r3⟩ := R
      simp only at ht H1 H2 hM2 hu2 hb2
      by_cases h0 : r3 = 0
      · subst h0
        have H3 := H1.out rfl
        have H4 : Hid (tkF s fs m a = tkF s (fs.drop (k + 1)) (m'.set f r1) r2) := H3
        clear H1 H2 H3
        go_wp2_with fail
        refine ht.mono ?_
        rintro e w1 ⟨rfl, rfl⟩
        clear ht
        go_wp2_with fail
        go_roundw
        case rel => exact ⟨k + 1, _, _, by omega, rfl, by go_num, H4.out, hM2, hu2, hb2⟩
        case measure => simp [intOf]; omega
      · have H3 := H2.out h0
        have H4 : Hid (tkF s fs m a = (m'.set f r1, 0, false)) := H3
        clear H1 H2 H3
        go_wp2_with fail
        refine ht.mono ?_
        rintro e w1 ⟨rfl, rfl⟩
        clear ht
        go_wp2_with fail
        go_ret2
        rw [H4.out]
        exact ⟨rfl, hM2, hb2⟩
    · have e : k = fs.length := by omega
      subst e
      have H4 : Hid (tkF s fs m a = (m', a', true)) := by show _ = _; rw [HE.out, List.drop_length]; rfl
      clear HE
      go_wp2
      go_ret2
      rw [H4.out]
      exact ⟨rfl, hM', hbl⟩
end Go.Proofs.Ytaopfdgebibpeaa

/-
  The contract of takeNums.
-/
namespace Go.Proofs.Ytaopfdgebibpeaa
open Go.ChangeShapes Go.WideShapes Go.ChangeAt Go.RowKit Go.PlainAid

section
variable {P : Program} {ops : Array Oper} {rest : List Oper} {o : Oper} {a : Act} {w : World} {Q : Exit → Act → World → Prop}
theorem at_load (t : TypeId) (x : Operand) (_ : o.op = Op.load t x) (h : wpList P ops Q (o :: rest) a w) : wpList P ops Q (o :: rest) a w := h
theorem at_store (t : TypeId) (x y : Operand) (_ : o.op = Op.store t x y) (h : wpList P ops Q (o :: rest) a w) : wpList P ops Q (o :: rest) a w := h
end
theorem results_cell2 {P : Program} {fn : Func} {p a : Tmp} {ty : TypeId} (h : fn.results = #[.cell p ty, .tmp a]) (tmps : Array Value) (w : World) (g : Nat) (t : TypeId) (cs : Array Value) (fr : Nat × Nat) (d : TypeDesc)
    (hp : tmps.getD p undef = .pointer (some ⟨g, 0, none⟩)) (hg : w.heap[g]? = some (.cells cs t fr))
    (hu : P.underlying ty = some d) (hd : (match d with | .struct _ | .array _ _ => true | _ => false) = true) (hi : (P.info? ty).map (·.size) = some cs.size) (x : Value) (hx : tmps.getD a undef = x) :
    (results fn tmps).run P w = .ok (.tuple #[.agg cs, x]) w := by
  have hp' : tmps[p]?.getD undef = .pointer (some ⟨g, 0, none⟩) := by simpa using hp
  have hx' : tmps[a]?.getD undef = x := by simpa using hx
  simp [results, h, hp', hx', asAddr, run_loadVar_row w g t ty cs fr d hg hu hd hi]
theorem results_cell3 {P : Program} {fn : Func} {p a b : Tmp} {ty : TypeId} (h : fn.results = #[.cell p ty, .tmp a, .tmp b]) (tmps : Array Value) (w : World) (g : Nat) (t : TypeId) (cs : Array Value) (fr : Nat × Nat) (d : TypeDesc)
    (hp : tmps.getD p undef = .pointer (some ⟨g, 0, none⟩)) (hg : w.heap[g]? = some (.cells cs t fr))
    (hu : P.underlying ty = some d) (hd : (match d with | .struct _ | .array _ _ => true | _ => false) = true) (hi : (P.info? ty).map (·.size) = some cs.size) (x y : Value) (hx : tmps.getD a undef = x) (hy : tmps.getD b undef = y) :
    (results fn tmps).run P w = .ok (.tuple #[.agg cs, x, y]) w := by
  have hp' : tmps[p]?.getD undef = .pointer (some ⟨g, 0, none⟩) := by simpa using hp
  have hx' : tmps[a]?.getD undef = x := by simpa using hx
  have hy' : tmps[b]?.getD undef = y := by simpa using hy
  simp [results, h, hp', hx', hy', asAddr, run_loadVar_row w g t ty cs fr d hg hu hd hi]

theorem Try.sizeMs : (Try.prog.info? 34).map (·.size) = some 7 := by kernel_rfl
theorem store_ms {ops : Array Oper} {rest : List Oper} {o : Oper} {a : Act} {w : World} {Q : Exit → Act → World → Prop} (hgd : o.guard = none) (x y : Operand) (ho : o.op = .store 34 x y)
    (g : Nat) (cs old : Array Value) (hx : a.eval x = .pointer (some ⟨g, 0, none⟩)) (hy : a.eval y = .agg cs) (hg : w.heap[g]? = some (.cells old 34)) (h7 : old.size = 7) (h8 : cs.size = 7) (h1 : cs.all (·.oneCell') = true)
    (h : wpList Try.prog ops Q rest (a.put o.dst undef) (w.setRow g cs)) : wpList Try.prog ops Q (o :: rest) a w :=
  wpList_store_row hgd 34 x y ho g cs hx hy 34 old hg (by rw [h8]; exact Try.sizeMs) (by rw [h7, h8]) h1 h
/-- No message. -/
def zM : MsD := ⟨0, 0, 0, 0, 0, 0, []⟩
/-- What takeNums reads. -/
def tnR (s : ByteArray) : MsD × Int × Bool :=
  if (tkF s [0] zM 0).2.2 = true then tkF s (bkF (tkF s [0] zM 0).1.k) (tkF s [0] zM 0).1 (tkF s [0] zM 0).2.1 else tkF s [0] zM 0

theorem fs_one (m : MsD) (v : Value) (h : v.oneCell' = true) : (m.fs v).all (·.oneCell') = true := by
  have : ∀ k x, (Value.int k x).oneCell' = true := fun _ _ => rfl
  simp [MsD.fs, h, this]

theorem below_row {base : Nat} {w W : World} {g : Nat} {cs : Array Value} (h : Below base w W) (hg : base ≤ g) (hw : base ≤ W.heap.size) : Below base w (W.setRow g cs) :=
  h.grown (row := some g) ⟨rfl, rfl, rfl, by simp, fun k _ hk => setRow_other W g k cs (fun e => hk (by rw [e]))⟩ hw (fun k hk => by simp at hk; omega)

set_option maxRecDepth 20000 in
set_option maxHeartbeats 1000000 in
theorem takeNums_any (s : ByteArray) (w : World) (hs : s.size ≤ maxLen) :
    Calls Try.prog 25 #[.string s] w fun e w' => e = .returned (.tuple #[.agg ((tnR s).1.fs (.slice none 0 0)), .int .i64 (tnR s).2.1, .bool (tnR s).2.2]) ∧ Below w.heap.size w w' := by
  have hZ : Below w.heap.size w (w.alloc (.cells (zM.fs (.slice none 0 0)) 34)) := (Below.refl _ w).alloc (Nat.le_refl _) _
  have hr0 : MB _ _ zM (.slice none 0 0) := heap_alloc_new w (.cells (zM.fs (.slice none 0 0)) 34)
  have hs0 : (w.alloc (.cells (zM.fs (.slice none 0 0)) 34)).heap.size = w.heap.size + 1 := by simp
  have hx0 : MB _ _ zM (.slice none 0 0) := heap_alloc_new (w.alloc (.cells (zM.fs (.slice none 0 0)) 34)) (.cells (zM.fs (.slice none 0 0)) 34)
  have hr1 := hr0.alloc (.cells (zM.fs (.slice none 0 0)) 34)
  have hs1 : ((w.alloc (.cells (zM.fs (.slice none 0 0)) 34)).alloc (.cells (zM.fs (.slice none 0 0)) 34)).heap.size = w.heap.size + 2 := by simp
  have hZ1 := hZ.alloc (by omega) (.cells (zM.fs (.slice none 0 0)) 34)
  rw [hs0] at hx0
  clear hr0 hs0 hZ
  unfold MsD.fs zM at hs1 hx0 hr1 hZ1
  go_enter Try.func25, Try.ntmps25
  go_wp2_with fail
  generalize (w.alloc _).alloc _ = w1 at *
  have hu := own_lit w1 (w.heap.size + 1) 56 (ptV (w.heap.size + 1) [0]) 1 (by omega) rfl (by decide)
  rw [hs1] at hu
  have ht := take_any (w.heap.size + 1) (w.heap.size + 1) _ (.slice none 0 0) zM [0] s 0 _ hs (Nat.le_refl _) (MB.alloc (m := zM) hx0 _) (by decide) (by decide) hu
  have HT : Hid (tnR s = if (tkF s [0] zM 0).2.2 = true then tkF s (bkF (tkF s [0] zM 0).1.k) (tkF s [0] zM 0).1 (tkF s [0] zM 0).2.1 else tkF s [0] zM 0) := rfl
  refine ht.mono ?_
  clear ht
  rintro e w2 ⟨rfl, hx2, hb2⟩
  have hb2' : Below (w.heap.size + 1) w1 w2 := ((Below.refl _ _).alloc (by omega) _).trans hb2
  have hr2 : MB w2 w.heap.size zM (.slice none 0 0) := (hb2'.block w.heap.size (by omega)).trans hr1
  have hB2 : Below w.heap.size w w2 := hZ1.trans (hb2'.mono (by omega))
  have hs2 := hb2'.size
  clear hb2 hb2' hr1 hZ1 hx0 hu
  generalize tkF s [0] zM 0 = T at *
  obtain ⟨m1, a1, o1⟩ := T
  simp only at HT hx2
  simp only
  cases o1
  · have HF : Hid (tnR s = (m1, a1, false)) := HT
    clear HT
    have hone := fs_one m1 (.slice none 0 0) rfl
    have hfin := setRow_heap _ _ _ (m1.fs (.slice none 0 0)) _ _ hr2
    have hBf : Below w.heap.size w (w2.setRow w.heap.size (m1.fs (.slice none 0 0))) := below_row hB2 (Nat.le_refl _) (by have := hB2.size; omega)
    have hsz : (m1.fs (.slice none 0 0)).size = 7 := rfl
    unfold MB at hx2 hr2
    have HG : Hid (Value.agg (tnR s |>.1.fs (.slice none 0 0)) = .agg (m1.fs (.slice none 0 0))) := by show _ = _; rw [HF.out]
    generalize m1.fs (.slice none 0 0) = cs at *
    have hsi : (Try.prog.info? 34).map (·.size) = some cs.size := by rw [hsz]; exact Try.sizeMs
    go_wp2_with (first | (with_reducible refine at_load 34 _ rfl ?_; refine wpList_load_row rfl 34 _ rfl (w.heap.size + 1) rfl 34 _ _ _ hx2 Try.underlying34 rfl hsi ?_) | (with_reducible refine at_store 34 _ _ rfl ?_; refine store_ms rfl _ _ rfl w.heap.size cs (zM.fs (.slice none 0 0)) rfl rfl hr2 rfl hsz hone ?_))
    refine bodyPost_ret (results_cell3 rfl _ _ w.heap.size 34 _ (0, 0) _ rfl hfin Try.underlying34 rfl hsi (.int .i64 a1) (.bool false) rfl rfl) rfl ?_
    refine ⟨?_, hBf⟩
    rw [HG.out, HF.out]
  have HT2 : Hid (tnR s = tkF s (bkF m1.k) m1 a1) := HT
  clear HT
  have hk := behindKind_any (w.heap.size + 1) m1 _ w2 hx2
  go_wp2_with fail
  refine hk.mono ?_
  clear hk
  rintro e w3 ⟨u3, rfl, hu3, hb3⟩
  have hx3 := hx2.below hb3
  have hr3 := hr2.below hb3
  have hB3 := hB2.trans (hb3.mono hB2.size)
  have hs3 := hb3.size
  have ht := take_any (w.heap.size + 1) (w.heap.size + 1) u3 (.slice none 0 0) m1 (bkF m1.k) s a1 w3 hs (Nat.le_refl _) hx3 (bkF_le _) (by have := bkF_len m1.k; omega) (own_lower hu3 (by omega))
  clear hx2 hr2 hB2 hb3 hu3 hx3
  go_wp2_with fail
  refine ht.mono ?_
  clear ht
  rintro e w4 ⟨rfl, hx4, hb4⟩
  have hr4 : MB w4 w.heap.size zM (.slice none 0 0) := (hb4.block w.heap.size (by omega)).trans hr3
  have hB4 := hB3.trans (hb4.mono (by omega))
  clear hB3 hb4 hr3
  generalize tkF s (bkF m1.k) m1 a1 = T at *
  obtain ⟨m2, a2, o2⟩ := T
  simp only at hx4
  simp only
  have HF : Hid (tnR s = (m2, a2, o2)) := HT2
  clear HT2
  have hone := fs_one m2 (.slice none 0 0) rfl
  have hfin := setRow_heap _ _ _ (m2.fs (.slice none 0 0)) _ _ hr4
  have hBf : Below w.heap.size w (w4.setRow w.heap.size (m2.fs (.slice none 0 0))) := below_row hB4 (Nat.le_refl _) (by have := hB4.size; omega)
  have hsz : (m2.fs (.slice none 0 0)).size = 7 := rfl
  unfold MB at hx4 hr4
  have HG : Hid (Value.agg (tnR s |>.1.fs (.slice none 0 0)) = .agg (m2.fs (.slice none 0 0))) := by show _ = _; rw [HF.out]
  generalize m2.fs (.slice none 0 0) = cs at *
  have hsi : (Try.prog.info? 34).map (·.size) = some cs.size := by rw [hsz]; exact Try.sizeMs
  go_wp2_with (first | (with_reducible refine at_load 34 _ rfl ?_; refine wpList_load_row rfl 34 _ rfl (w.heap.size + 1) rfl 34 _ _ _ hx4 Try.underlying34 rfl hsi ?_) | (with_reducible refine at_store 34 _ _ rfl ?_; refine store_ms rfl _ _ rfl w.heap.size cs (zM.fs (.slice none 0 0)) rfl rfl hr4 rfl hsz hone ?_))
  refine bodyPost_ret (results_cell3 rfl _ _ w.heap.size 34 _ (0, 0) _ rfl hfin Try.underlying34 rfl hsi (.int .i64 a2) (.bool o2) rfl rfl) rfl ?_
  refine ⟨?_, hBf⟩
  rw [HG.out, HF.out]
end Go.Proofs.Ytaopfdgebibpeaa
