/-
  The contracts of same and written.
-/
import Derived.Test.YtaopfdgebibpeaaNtINtJNtKNtL
import Derived.Deep.Slices
import Derived.SizedLaws
namespace Go.Proofs.Ytaopfdgebibpeaa.nt
open Go.Maps Go.WideShapes Go.RowKit Go.ChangeShapes Go.ChangeAt Go.PlainAid


theorem own_put {W : World} {B e g n cap k : Nat} {xs : List Value} (h : W.ownsRow B e 2 (.slice (some ⟨g, 0, none⟩) n cap) n xs) (x y : Value) :
    ∃ ys, ((W.setCell ⟨g, k * 2, none⟩ x).setCell ⟨g, k * 2 + 1, none⟩ y).ownsRow B e 2 (.slice (some ⟨g, 0, none⟩) n cap) n ys := by
  rcases h.2 with ⟨hv, _⟩ | ⟨g', cap', cur, hv, hb, hg, hn, hc, hs, ht⟩
  · cases hv
  · injection hv with h1 _ h3
    injection h1 with h1
    injection h1 with h1
    subst h1
    subst h3
    refine ⟨((cur.setIfInBounds (k * 2) x).setIfInBounds (k * 2 + 1) y).toList.take (n * 2), ?_, .inr ⟨g, cap, _, rfl, hb, heap_setCell (heap_setCell hg (k * 2) x) (k * 2 + 1) y, hn, hc, by simp [hs], rfl⟩⟩
    rw [List.length_take, Array.length_toList]
    simp [hs]
    omega
theorem own_cells {W : World} {B e g n cap k : Nat} {xs : List Value} (h : W.ownsRow B e 2 (.slice (some ⟨g, 0, none⟩) n cap) n xs) (hk : k < n) :
    (∃ v, W.cell? ⟨g, k * 2, none⟩ = some v) ∧ (∃ v, W.cell? ⟨g, k * 2 + 1, none⟩ = some v) ∧ W.frozen? ⟨g, k * 2, none⟩ = false ∧ W.frozen? ⟨g, k * 2 + 1, none⟩ = false ∧ B ≤ g := by
  rcases h.2 with ⟨hv, _⟩ | ⟨g', cap', cur, hv, hb, hg, hn, hc, hs, ht⟩
  · cases hv
  · injection hv with h1 _ h3
    injection h1 with h1
    injection h1 with h1
    subst h1
    have c0 := cell_of_row W g (k * 2) cur e (0, 0) hg
    have c1 := cell_of_row W g (k * 2 + 1) cur e (0, 0) hg
    refine ⟨⟨cur[k * 2]'(by omega), by rw [c0]; simp [show k * 2 < cur.size by omega]⟩, ⟨cur[k * 2 + 1]'(by omega), by rw [c1]; simp [show k * 2 + 1 < cur.size by omega]⟩, by simp [World.frozen?, hg], by simp [World.frozen?, hg], hb⟩

end Go.Proofs.Ytaopfdgebibpeaa.nt

/-
  Scripts that came in, opened; nets side by side.
-/
namespace Go.Proofs.Ytaopfdgebibpeaa.nt
open Go.Maps Go.WideShapes Go.RowKit Go.ChangeShapes Go.ChangeAt Go.PlainAid

/-- A call of a script. -/
structure CaD where
  k : Int
  n : Int
  x : LtD
structure CaD.Bd (o : CaD) : Prop where
  k0 : -9223372036854775808 ≤ o.k
  k1 : o.k ≤ 9223372036854775807
  n0 : -9223372036854775808 ≤ o.n
  n1 : o.n ≤ 9223372036854775807
/-- A script in the world. -/
def RdC (w : World) (v : Value) (l : List CaD) : Prop :=
  ∃ (ao : Option Addr) (cp : Nat), v = .slice ao l.length cp ∧ ∀ i o, l[i]? = some o → ∃ b off, ao = some ⟨b, off, none⟩ ∧ b < w.heap.size ∧
    w.cell? ⟨b, off + i * 4, none⟩ = some (.int .i64 o.k) ∧ w.cell? ⟨b, off + i * 4 + 1, none⟩ = some (.int .i64 o.n) ∧ w.cell? ⟨b, off + i * 4 + 2, none⟩ = some (.int .i64 o.x.to) ∧ w.cell? ⟨b, off + i * 4 + 3, none⟩ = some (.string o.x.t)

theorem wAll_mem {H : Type} {P : Program} {e : TypeId} : ∀ {l : List (DataW H)} {d : DataW H}, d ∈ l → ∀ n ∈ d.weights P e, n ∈ DataW.weightsAll P e l
  | x :: r, d, hd, n, hn => by
    simp only [DataW.weightsAll, List.mem_append]
    rcases List.mem_cons.1 hd with rfl | h
    · exact Or.inl hn
    · exact Or.inr (wAll_mem h n hn)

set_option maxRecDepth 20000 in
theorem open_ca {H : Type} {enc : TypeId × Value → H} {w : World} {spare : Nat → Bool} {held : Bool} {n : Nat} {cs : List Value} {x : DataW H × List MemPlace} (h : DataW.trod enc Try.prog w 0 spare held n 40 cs = some x) :
    ∃ o : CaD, cs = [.int .i64 o.k, .int .i64 o.n, .int .i64 o.x.to, .string o.x.t] ∧ o.Bd := by
  obtain ⟨xs, m, _, hx, hl, _, hf⟩ := DataW.trod_struct Try.underlying40 h
  have h4 : Try.prog.cellsOf 40 = 4 := by kernel_rfl
  have c2 : Try.prog.cellsOf 36 = 2 := by kernel_rfl
  have c3 : Try.prog.cellsOf 3 = 1 := by kernel_rfl
  have c9 : Try.prog.cellsOf 9 = 1 := by kernel_rfl
  rw [h4] at hl
  have hxl : xs.length = 3 := by assumption
  match xs, hxl, cs, hl with
  | [y0, y1, y2], _, [v0, v1, v2, v3], _ =>
    have g0 := hf 0 _ rfl
    have g1 := hf 1 _ rfl
    have g2 := hf 2 _ rfl
    simp [c2, c3] at g0 g1 g2
    obtain ⟨a0, e0, _, w0⟩ := DataW.trod_int Try.underlying3 g0
    obtain ⟨a1, e1, _, w1⟩ := DataW.trod_int Try.underlying3 g1
    obtain ⟨zs, m2, _, hz, hl2, _, hf2⟩ := DataW.trod_struct Try.underlying36 g2
    have hzl : zs.length = 2 := by assumption
    match zs, hzl with
    | [z0, z1], _ =>
      have k0 := hf2 0 _ rfl
      have k1 := hf2 1 _ rfl
      simp [c3, c9] at k0 k1
      obtain ⟨a2, e2, _, w2⟩ := DataW.trod_int Try.underlying3 k0
      obtain ⟨a3, e3, _, w3⟩ := DataW.trod_string Try.underlying9 k1
      simp at e0 e1 e2 e3
      exact ⟨⟨a0, a1, ⟨a2, a3⟩⟩, by rw [e0, e1, e2, e3], (wf_bd w0).1, (wf_bd w0).2, (wf_bd w1).1, (wf_bd w1).2⟩

set_option maxRecDepth 20000 in
/-- A script, out of its value. -/
theorem open_nop {H : Type} {enc : TypeId × Value → H} {w : World} {spare : Nat → Bool} {held : Bool} {fuel : Nat} {ao : Option Addr} {len cap : Nat} {x : DataW H × List MemPlace}
    (h : DataW.trod enc Try.prog w 0 spare held fuel 23 (Value.slice ao len cap).cells.toList = some x) (hz : ∀ n ∈ x.1.weights Try.prog 23, n ≤ reachBytes) :
    ∃ l : List CaD, RdC w (.slice ao len cap) l ∧ l.length ≤ 4398046511104 ∧ ∀ o ∈ l, o.Bd := by
  rcases Go.Deep.open_slice Try.underlying23 h with ⟨hcs, _⟩ | ⟨a, l, c, m, n, D, Pl, hcs, _, hl, hmx, hmm, hx, hall⟩
  · simp [Value.cells] at hcs
    obtain ⟨rfl, rfl, rfl⟩ := hcs
    exact ⟨[], ⟨none, 0, rfl, fun i o h => by simp at h⟩, Nat.zero_le _, by simp⟩
  · simp [Value.cells] at hcs
    obtain ⟨rfl, rfl, rfl⟩ := hcs
    have hlm : len ≤ m := by rw [hmm]; split <;> omega
    have h4 : Try.prog.cellsOf 40 = 4 := by kernel_rfl
    have hb : Try.prog.bytesOf 40 = 40 := by kernel_rfl
    have hln : len ≤ 4398046511104 := by
      have := hz ((len + (m - len)) * 40) (by rw [hx]; simp [DataW.weights, Try.underlying23, hb])
      unfold reachBytes at this
      omega
    rw [h4] at hall
    obtain ⟨b, off, spot⟩ := a
    have hsp : ∀ i, i < len → spot = none := by
      intro i hi
      obtain ⟨cs', h1, h2⟩ := hall 0 (by omega)
      obtain ⟨o, rfl, _⟩ := open_ca h2
      obtain ⟨_, _, hcell⟩ := World.cells?_some h1
      have e0 := hcell 0 (by omega)
      simp at e0
      have := World.cell?_spot e0
      simpa [Addr.add] using this
    have each : ∀ i, i < len → ∃ o : CaD, o.Bd ∧ spot = none ∧ b < w.heap.size ∧ w.cell? ⟨b, off + i * 4, none⟩ = some (.int .i64 o.k) ∧ w.cell? ⟨b, off + i * 4 + 1, none⟩ = some (.int .i64 o.n) ∧ w.cell? ⟨b, off + i * 4 + 2, none⟩ = some (.int .i64 o.x.to) ∧ w.cell? ⟨b, off + i * 4 + 3, none⟩ = some (.string o.x.t) := by
      intro i hi
      obtain ⟨cs', h1, h2⟩ := hall i (by omega)
      obtain ⟨o, rfl, ho⟩ := open_ca h2
      obtain ⟨_, _, hcell⟩ := World.cells?_some h1
      have e0 := hcell 0 (by omega)
      have e1 := hcell 1 (by omega)
      have e2 := hcell 2 (by omega)
      have e3 := hcell 3 (by omega)
      rw [Go.Deep.add_add] at e0 e1 e2 e3
      simp at e0 e1 e2 e3
      obtain rfl := hsp i hi
      rw [addr4] at e0 e1 e2 e3
      exact ⟨o, ho, rfl, World.block_lt_of_cell? w _ e0, e0, by rw [Nat.add_assoc]; exact e1, by rw [Nat.add_assoc]; exact e2, by rw [Nat.add_assoc]; exact e3⟩
    obtain ⟨f, hf⟩ := @Go.Deep.choose_lt CaD ⟨⟨0, 0, ⟨0, ⟨#[]⟩⟩⟩⟩ _ _ each
    have hlen : ((List.range len).map f).length = len := by simp
    refine ⟨(List.range len).map f, ⟨some ⟨b, off, spot⟩, cap, by rw [hlen], fun i o ho => ?_⟩, by rw [hlen]; omega, fun o ho => ?_⟩
    · have hi : i < len := by
        have := (List.getElem?_eq_some_iff.1 ho).1
        simpa using this
      simp [hi] at ho
      subst ho
      obtain ⟨_, rfl, r⟩ := hf i hi
      exact ⟨b, off, rfl, r⟩
    · obtain ⟨i, hi, rfl⟩ := List.mem_map.1 ho
      exact (hf i (List.mem_range.1 hi)).1

/-- A call's box. -/
def PB (W : World) (q : Nat) (o : CaD) : Prop := W.heap[q]? = some (.cells #[.int .i64 o.k, .int .i64 o.n, .int .i64 o.x.to, .string o.x.t] 40)
theorem PB.facts {W : World} {q : Nat} {o : CaD} (h : PB W q o) : W.cell? ⟨q, 0, none⟩ = some (.int .i64 o.k) ∧ W.cell? ⟨q, 1, none⟩ = some (.int .i64 o.n) ∧ W.cell? ⟨q, 2, none⟩ = some (.int .i64 o.x.to) ∧ W.cell? ⟨q, 3, none⟩ = some (.string o.x.t) :=
  ⟨cell_of_row _ _ 0 _ _ (0, 0) h, cell_of_row _ _ 1 _ _ (0, 0) h, cell_of_row _ _ 2 _ _ (0, 0) h, cell_of_row _ _ 3 _ _ (0, 0) h⟩

theorem PB.only {S : List Nat} {W W' : World} {q : Nat} {o : CaD} (h : PB W q o) (ho : Only S W W') (hq : q ∉ S) : PB W' q o := only_heap h ho hq
end Go.Proofs.Ytaopfdgebibpeaa.nt

/-
  The contract of count; letters appended one by one; what is sent, taken and under way.
-/
namespace Go.Proofs.Ytaopfdgebibpeaa.nt
open Go.Maps Go.WideShapes Go.RowKit Go.ChangeShapes Go.ChangeAt Go.PlainAid

set_option maxRecDepth 20000 in
set_option maxHeartbeats 1000000 in
theorem count_any (v : Value) (l : List LtD) (x : LtD) (w : World) (hr : RdL w v l) (hm : l.length ≤ 1152921504606846976) :
    Calls Try.prog 13 #[v, x.v] w fun e w' => e = .returned (.int .i64 (cnt l x : Int)) ∧ Below w.heap.size w w' := by
  obtain ⟨ao, cp, rfl, hcs⟩ := hr
  have hb0 : Below w.heap.size w (w.alloc (.cells #[.int .i64 x.to, .string x.t] 36)) := (Below.refl _ w).alloc (Nat.le_refl _) _
  have hl0 := lb_new w x
  have hT : ∀ k (hk : k < l.length), cnt (l.take (k + 1)) x = cnt (l.take k) x + (if l[k] = x then 1 else 0) := fun k hk => by
    unfold cnt
    rw [List.take_succ_eq_append_getElem hk, List.count_append, List.count_singleton]
    by_cases h : l[k] = x <;> simp [h]
  have hle : ∀ k, cnt (l.take k) x ≤ k := fun k => Nat.le_trans List.count_le_length (by rw [List.length_take]; omega)
  unfold LtD.v
  go_enter Try.func13, Try.ntmps13
  go_wp2_with fail
  generalize w.alloc _ = w1 at *
  go_loopw [5, 6] (fun s i wr => ∃ k : Nat, k ≤ l.length ∧ i = .int .i64 (k : Int) ∧ s = .int .i64 (cnt (l.take k) x : Int) ∧ LB wr w.heap.size x ∧ Below w.heap.size w wr) (fun _ i _ => l.length - (Go.RowKit.intOf i).toNat)
  case atStart => exact ⟨0, Nat.zero_le _, rfl, rfl, hl0, hb0⟩
  case round =>
    obtain ⟨k, hk, rfl, rfl, hl, hb⟩ := hrel
    clear hl0 hb0
    by_cases hlt : k < l.length
    · have hlt' : (k : Int) < (l.length : Int) := by omega
      obtain ⟨b, off, rfl, hbw, c0, c1⟩ := hcs k l[k] (by simp [hlt])
      replace c0 := hb.cell (p := ⟨b, off + k * 2, none⟩) hbw |>.trans c0
      replace c1 := hb.cell (p := ⟨b, off + k * 2 + 1, none⟩) hbw |>.trans c1
      obtain ⟨y0, y1, -, -⟩ := hl.facts
      have HT := hT k hlt
      have hlk := hle k
      by_cases he : l[k] = x
      · have HE : Hid (cnt (l.take (k + 1)) x = cnt (l.take k) x + 1) := by show _ = _; rw [HT, if_pos he]
        rw [he] at c0 c1
        clear hcs he HT hT hle
        generalize cnt (l.take k) x = q at *
        go_wp2_with fail
        go_region
        go_wp2_with fail
        exact ⟨⟨k + 1, by omega, by go_num, by rw [HE.out]; rfl, hl, Below.drew hb⟩, by simp [Go.RowKit.intOf]; omega⟩
      · have HE : Hid (cnt (l.take (k + 1)) x = cnt (l.take k) x) := by show _ = _; rw [HT, if_neg he]; rfl
        generalize cnt (l.take k) x = q at *
        generalize l[k] = y at *
        clear hcs HT hT hle
        by_cases h1 : y.to = x.to
        · have h2 : ¬ y.t.toList = x.t.toList := str_ne (fun h2 => he (by
            cases x; cases y
            simp at h1 h2
            rw [h1, h2]))
          have h1' : (y.to == x.to) = true := by simp [h1]
          clear he h1
          go_wp2_with fail
          go_region
          go_wp2_with fail
          exact ⟨⟨k + 1, by omega, by go_num, by rw [HE.out], hl, Below.drew hb⟩, by simp [Go.RowKit.intOf]; omega⟩
        · have h1' : (y.to == x.to) = false := by simp [h1]
          clear he h1
          go_wp2_with fail
          go_region
          go_wp2_with fail
          exact ⟨⟨k + 1, by omega, by go_num, by rw [HE.out], hl, Below.drew hb⟩, by simp [Go.RowKit.intOf]; omega⟩
    · obtain rfl : k = l.length := by omega
      clear hcs hT hle
      rw [List.take_length]
      go_wp2_with fail
      go_ret
      exact ⟨rfl, hb⟩

theorem wpList_app_one {ops : Array Oper} {rest : List Oper} {o : Oper} {a : Act} {Q : Exit → Act → World → Prop} (wr : World) (hgd : o.guard = none) (sl y : Operand)
    (ho : o.op = .call { callee := .builtin .append, args := #[sl, y], argTypes := #[29, 29] }) (B : Nat) (u : Value) (L : List LtD) (x : LtD) (g : Nat) (hs : a.eval sl = u) (hy : a.eval y = .slice (some ⟨g, 0, none⟩) 1 1)
    (hg : wr.heap[g]? = some (.cells #[.int .i64 x.to, .string x.t] 36 (0, 0))) (hu : wr.ownsRow B 36 2 u L.length (lcs L)) (hB : B ≤ wr.heap.size) (hl : L.length + 1 ≤ 5864062014000)
    (h : ∀ u' w', w'.ownsRow B 36 2 u' (L ++ [x]).length (lcs (L ++ [x])) → wr.grownBy w' u.ownBlock → (u'.ownBlock = u.ownBlock ∨ ∀ g, u'.ownBlock = some g → wr.heap.size ≤ g) → wpList Try.prog ops Q rest (a.put o.dst u') w') : wpList Try.prog ops Q (o :: rest) a wr := by
  obtain ⟨iL, hi, hz0, hz1, hz2⟩ := info_parts Try.infoLt
  refine wpList_append_lies wr hgd sl y _ ho B 36 iL (.agg #[.int .i64 0, .string ⟨#[]⟩]) 2 24 Try.underlying29 hi hz0 hz1 hz2 rfl (by decide) u L.length (lcs L) hs hu ⟨g, 0, none⟩ 1 1 [.int .i64 x.to, .string x.t] hy rfl (World.news_of_block hg) (by simp [Value.oneCell']) (by decide) (by unfold maxLen; omega) (by omega) hB wr.heap.size rfl ?_
  intro g' cap w' h1 h2 h3 _
  refine h _ w' ?_ h2 ?_
  · rw [lcs_append, lcs_one, List.length_append]
    exact h1
  · rcases h3 with h3 | h3
    · exact .inl h3.symm
    · exact .inr (fun k hk => by simp [Value.ownBlock] at hk; omega)

/-- What came in, what went out, and what is under way. -/
structure Kp (w W : World) (N : NtS) (uA uB : Value) (A B : List LtD) (dbl : Bool) : Prop where
  fn : Fr w W N
  ra : W.ownsRow w.heap.size 36 2 uA A.length (lcs A)
  rb : W.ownsRow w.heap.size 36 2 uB B.length (lcs B)
  da : ∀ g, uA.ownBlock = some g → g ∉ N.bl
  db : ∀ g, uB.ownBlock = some g → g ∉ N.bl
  ab : ∀ g, uA.ownBlock = some g → uB.ownBlock ≠ some g
  ct : ∀ x, cnt A x = cnt N.L x + cnt B x
  ln : A.length = N.L.length + B.length
  sb : dbl = false → N.L.Sublist A
/-- The memory's half of it. -/
structure Km (w W : World) (N : NtS) (uA uB : Value) (A B : List LtD) : Prop where
  fn : Fr w W N
  ra : W.ownsRow w.heap.size 36 2 uA A.length (lcs A)
  rb : W.ownsRow w.heap.size 36 2 uB B.length (lcs B)
  da : ∀ g, uA.ownBlock = some g → g ∉ N.bl
  db : ∀ g, uB.ownBlock = some g → g ∉ N.bl
  ab : ∀ g, uA.ownBlock = some g → uB.ownBlock ≠ some g
theorem Km.step {w W W' : World} {N N' : NtS} {uA uB : Value} {A B L : List LtD} (h : Km w W N uA uB A B) (ha : Aft W W' N L N') : Km w W' N' uA uB A B := by
  refine ⟨h.fn.aft ha, own_only h.ra ha.on h.da, own_only h.rb ha.on h.db, fun g hg e => ?_, fun g hg e => ?_, h.ab⟩
  · rcases ha.bl g e with e | e
    · exact h.da g hg e
    · have := (h.ra.lt g hg).2; omega
  · rcases ha.bl g e with e | e
    · exact h.db g hg e
    · have := (h.rb.lt g hg).2; omega
theorem Km.below {w W W' : World} {N : NtS} {uA uB : Value} {A B : List LtD} (h : Km w W N uA uB A B) (hb : Below W.heap.size W W') : Km w W' N uA uB A B :=
  ⟨h.fn.below hb, own_only h.ra (Only.of_below (S := []) hb) (by simp), own_only h.rb (Only.of_below (S := []) hb) (by simp), h.da, h.db, h.ab⟩
theorem Km.drew {w W : World} {N : NtS} {uA uB : Value} {A B : List LtD} (h : Km w W N uA uB A B) : Km w W.drew N uA uB A B :=
  ⟨⟨Below.drew h.fn.bel, h.fn.net.only (Only.drew [] _) (by simp), h.fn.new⟩, own_only h.ra (Only.drew [] _) (by simp), own_only h.rb (Only.drew [] _) (by simp), h.da, h.db, h.ab⟩
theorem Km.inA {w W W' : World} {N : NtS} {uA uB u' : Value} {A B : List LtD} {x : LtD} (h : Km w W N uA uB A B) (ho : W'.ownsRow w.heap.size 36 2 u' (A ++ [x]).length (lcs (A ++ [x]))) (hg : W.grownBy W' uA.ownBlock) (hq : u'.ownBlock = uA.ownBlock ∨ ∀ g, u'.ownBlock = some g → W.heap.size ≤ g) : Km w W' N u' uB (A ++ [x]) B := by
  have o : Only uA.ownBlock.toList W W' := Only.of_grown hg (fun k hk => by simp [hk])
  have hb : Below w.heap.size w W' := h.fn.bel.grown hg h.fn.bel.size (fun k hk => (h.ra.lt k hk).1)
  refine ⟨⟨hb, h.fn.net.only o (fun b hb e => h.da b (by simpa using e) hb), h.fn.new⟩, ho, own_only h.rb o (fun g hg e => h.ab g (by simpa using e) hg), fun g hg e => ?_, h.db, fun g hg e => ?_⟩
  · rcases hq with hq | hq
    · exact h.da g (by rw [← hq]; exact hg) e
    · have := hq g hg; have := h.fn.net.lt g e; omega
  · rcases hq with hq | hq
    · exact h.ab g (by rw [← hq]; exact hg) e
    · have := hq g hg; have := (h.rb.lt g e).2; omega
theorem Km.inB {w W W' : World} {N : NtS} {uA uB u' : Value} {A B : List LtD} {x : LtD} (h : Km w W N uA uB A B) (ho : W'.ownsRow w.heap.size 36 2 u' (B ++ [x]).length (lcs (B ++ [x]))) (hg : W.grownBy W' uB.ownBlock) (hq : u'.ownBlock = uB.ownBlock ∨ ∀ g, u'.ownBlock = some g → W.heap.size ≤ g) : Km w W' N uA u' A (B ++ [x]) := by
  have o : Only uB.ownBlock.toList W W' := Only.of_grown hg (fun k hk => by simp [hk])
  have hb : Below w.heap.size w W' := h.fn.bel.grown hg h.fn.bel.size (fun k hk => (h.rb.lt k hk).1)
  refine ⟨⟨hb, h.fn.net.only o (fun b hb e => h.db b (by simpa using e) hb), h.fn.new⟩, own_only h.ra o (fun g hg e => h.ab g hg (by simpa using e)), ho, h.da, fun g hg e => ?_, fun g hg e => ?_⟩
  · rcases hq with hq | hq
    · exact h.db g (by rw [← hq]; exact hg) e
    · have := hq g hg; have := h.fn.net.lt g e; omega
  · rcases hq with hq | hq
    · exact h.ab g hg (by rw [← hq]; exact e)
    · have := hq g e; have := (h.ra.lt g hg).2; omega
/-- The data's half: counted. -/
structure Kd (L A B : List LtD) (dbl : Bool) : Prop where
  ct : ∀ x, cnt A x = cnt L x + cnt B x
  ln : A.length = L.length + B.length
  sb : dbl = false → L.Sublist A
theorem Kd.nil : Kd [] [] [] false := ⟨fun x => by simp [cnt], rfl, fun _ => List.Sublist.refl _⟩
theorem Kd.send {L A B : List LtD} {d : Bool} (h : Kd L A B d) (x : LtD) : Kd (L ++ [x]) (A ++ [x]) B d :=
  ⟨fun y => by have := h.ct y; rw [cnt_app, cnt_app]; omega, by have := h.ln; simp; omega, fun e => (h.sb e).append (List.Sublist.refl _)⟩
theorem Kd.dbl {L A B : List LtD} {d : Bool} (h : Kd L A B d) (x : LtD) : Kd (L ++ [x]) (A ++ [x]) B true :=
  ⟨fun y => by have := h.ct y; rw [cnt_app, cnt_app]; omega, by have := h.ln; simp; omega, fun e => by cases e⟩
theorem Kd.take {L A B : List LtD} {d : Bool} {k : Nat} {x : LtD} (h : Kd L A B d) (hx : L[k]? = some x) : Kd (L.eraseIdx k) A (B ++ [x]) d := by
  obtain ⟨e1, e2⟩ := cnt_erase hx
  have hk : k < L.length := (List.getElem?_eq_some_iff.1 hx).1
  refine ⟨fun y => ?_, ?_, fun e => (List.eraseIdx_sublist _ _).trans (h.sb e)⟩
  · have := h.ct y
    rw [cnt_app]
    by_cases hy : y = x
    · subst hy; rw [if_pos rfl]; omega
    · rw [if_neg hy]; have := e2 y hy; omega
  · have := h.ln
    rw [List.length_eraseIdx_of_lt hk, List.length_append]
    simp; omega
/-- Looking for one list in another, from the front. -/
def grd : List LtD → List LtD → Nat
  | [], _ => 0
  | _, [] => 0
  | a :: A, l :: L => if a = l then grd A L + 1 else grd A (l :: L)
theorem grd_all : ∀ (A L : List LtD), L.Sublist A → grd A L = L.length
  | [], L, h => by rw [List.sublist_nil.1 h]; simp [grd]
  | a :: A, [], _ => by simp [grd]
  | a :: A, l :: L, h => by
    rw [grd]
    by_cases e : a = l
    · subst e
      rw [if_pos rfl, grd_all A L (List.cons_sublist_cons.1 h)]
      rfl
    · rw [if_neg e]
      refine grd_all A (l :: L) ?_
      cases h with
      | cons _ h => exact h
      | cons_cons _ h => exact absurd rfl e
end Go.Proofs.Ytaopfdgebibpeaa.nt
