/-
  The law's own functions (layer 24): some, copied, same, word.
-/
import Derived.Test.YtjimolafoihnpaaDoorTrL
import Derived.Test.YtjimolafoihnpaaDoorTrC
import Derived.Laws.DeepStrings4
import Derived.Test.YtjimolafoihnpaaDoorTrF
import Derived.Test.YtjimolafoihnpaaDoorTrG
namespace Go.Proofs.YtjimolafoihnpaaDoor.tc
open Go.Maps Go.ChangeShapes Go.WideShapes Go.ChangeAt Go.RowKit Go.PlainAid

theorem run_append_nil (cp : Nat) {T e ty : TypeId} {i0 : TypeInfo} (w : World) (hT : Tryd.prog.underlying T = some (.slice e)) (hin : Tryd.prog.info? e = some i0) : (Builtin.append_ #[T, T] ty #[.slice none 0 0, .slice none 0 cp]).run Tryd.prog w = .ok (.slice none 0 0) w := by
  simp [Builtin.append_, run_underlying hT, sizeOf, typeInfo, hin, Builtin.lenOf, Builtin.firstCells]
set_option maxRecDepth 20000 in
/-- append(nil, l...): a row in memory of its own. -/
theorem wp_dupG {W : World} {o : Oper} {a : Act} {K : Act → World → Prop} {Q : Exit → Act → World → Prop} (s x : Operand) {T e : TypeId} {i0 : TypeInfo} {zv : Value} {z by8 n cp B : Nat} {ao : Option Addr} {xs : List Value} (hT : Tryd.prog.underlying T = some (.slice e)) (hin : Tryd.prog.info? e = some i0) (hz0 : i0.zero = some zv) (hz1 : i0.size = z) (hz2 : i0.bytes = by8) (hzs : zv.cells.size = z) (hzp : 0 < z)
    (ho : o.op = .call { callee := .builtin .append, args := #[s, x], argTypes := #[T, T] }) (hs : a.eval s = .slice none 0 0) (hx : a.eval x = .slice ao n cp)
    (hlen : xs.length = n * z) (hc : ∀ ad, ao = some ad → ∀ j u, xs[j]? = some u → W.cell? (ad.add j) = some u) (hn : ao = none → n = 0) (h1 : ∀ u ∈ xs, u.oneCell' = true) (h63 : n ≤ maxLen) (hby : n * by8 ≤ 140737488355328) (hB : B ≤ W.heap.size)
    (h : ∀ a' k' w', w'.ownsRow B e z (.slice a' n k') n xs → Below W.heap.size W w' → K (a.put o.dst (.slice a' n k')) w') : o.wp Tryd.prog a W K Q := by
  have hnil := World.ownsRow_nil W B e z
  cases ao with
  | none =>
    have h0 := hn rfl
    subst h0
    have hxs : xs = [] := List.eq_nil_of_length_eq_zero (by omega)
    subst hxs
    have hrun := run_append_nil (ty := o.type) cp W hT hin
    unfold Oper.wp
    simp [execOp, ho, resolve, invoke, builtin, hs, hx, hrun, Result.andThen]
    exact h none 0 W hnil (Below.refl _ _)
  | some ad =>
    refine wp_append_own W s x T ho B e i0 zv z by8 hT hin hz0 hz1 hz2 hzs hzp (.slice none 0 0) 0 [] hs hnil ad n cp xs hx hlen (hc ad rfl) h1 (by omega) (by rw [Nat.zero_add]; exact hby) hB ?_
    intro v' w' ho' hg _
    rw [Nat.zero_add, List.nil_append] at ho'
    obtain ⟨a', k', rfl⟩ := own_form ho'
    exact h a' k' w' ho' ⟨hg.os, hg.tape, hg.output, hg.size, fun k hk => hg.block k hk (by simp [Value.ownBlock])⟩
set_option maxRecDepth 20000 in
set_option maxHeartbeats 2000000 in
theorem docSame_true (va vb : Value) (l : List RunD) (w : World) (hm : l.length ≤ 1125899906842624) (ha : RdN w va l) (hb : RdN w vb l) :
    Calls Tryd.prog 33 #[va, vb] w fun e w' => e = .returned (.bool true) ∧ Below w.heap.size w w' := by
  obtain ⟨ao, ac, rfl, _, hac⟩ := ha
  obtain ⟨bo, bc, rfl, _, hbc⟩ := hb
  go_enter Tryd.func33, Tryd.ntmps33
  go_wp2
  go_loopw [5] (fun i wr => ∃ k : Nat, k ≤ l.length ∧ i = .int .i64 (k : Int) ∧ Below w.heap.size w wr) (fun i _ => l.length - (intOf i).toNat)
  case atStart => exact ⟨0, by omega, rfl, Below.refl _ _⟩
  case round =>
    obtain ⟨k, hk, rfl, hbl⟩ := hrel
    by_cases hlt : k < l.length
    · have hlt' : (k : Int) < (l.length : Int) := by omega
      obtain ⟨b1, o1, rfl, hb1, c0, c1, c2, c3⟩ := hac k l[k] (by simp [hlt])
      obtain ⟨b2, o2, rfl, hb2, d0, d1, d2, d3⟩ := hbc k l[k] (by simp [hlt])
      have hB1 : ∀ o, wr.cell? ⟨b1, o, none⟩ = w.cell? ⟨b1, o, none⟩ := fun o => hbl.cell (p := ⟨b1, o, none⟩) hb1
      have hB2 : ∀ o, wr.cell? ⟨b2, o, none⟩ = w.cell? ⟨b2, o, none⟩ := fun o => hbl.cell (p := ⟨b2, o, none⟩) hb2
      rw [← hB1] at c0 c1 c2 c3
      rw [← hB2] at d0 d1 d2 d3
      clear hB1 hB2 hac hbc
      generalize l[k] = o at *
      go_wp2
      go_quiet (fail)
      go_wp2
      go_roundw
      case rel => exact ⟨k + 1, by omega, by go_num, below_drewN hbl _⟩
      case measure => simp [intOf]; omega
    · clear hac hbc
      go_wp2
      go_ret
      exact ⟨rfl, hbl⟩
theorem rdn_srcT {W : World} {ao : Option Addr} {n cp : Nat} {l : List RunD} (h : RdN W (.slice ao n cp) l) : n = l.length ∧ (∀ ad, ao = some ad → ∀ j u, (l.map cRn).flatten[j]? = some u → W.cell? (ad.add j) = some u) ∧ (ao = none → l.length = 0) := by
  obtain ⟨a, c, e, -, h⟩ := h
  injection e with e1 e2 e3
  subst e1
  refine ⟨e2, fun ad had j u hu => ?_, fun h0 => ?_⟩
  · have hjl : j < l.length * 4 := by
      have := (List.getElem?_eq_some_iff.1 hu).1
      rwa [flat_len cRn 4 cRn_len] at this
    have hq : j / 4 < l.length := by omega
    obtain ⟨b, off, e, -, c0, c1, c2, c3⟩ := h (j / 4) l[j / 4] (by simp [hq])
    rw [had] at e
    injection e with e
    subst e
    rw [addr4]
    have hf := flat_at cRn 4 cRn_len l (j / 4) l[j / 4] (by simp [hq]) (j % 4) (Nat.mod_lt _ (by decide))
    rw [show j / 4 * 4 + j % 4 = j by omega, hu] at hf
    have hm : j % 4 = 0 ∨ j % 4 = 1 ∨ j % 4 = 2 ∨ j % 4 = 3 := by omega
    rcases hm with m | m | m | m <;> rw [m] at hf <;> simp [cRn] at hf <;> subst hf
    · rw [show off + j = off + j / 4 * 4 by omega]; exact c0
    · rw [show off + j = off + j / 4 * 4 + 1 by omega]; exact c1
    · rw [show off + j = off + j / 4 * 4 + 2 by omega]; exact c2
    · rw [show off + j = off + j / 4 * 4 + 3 by omega]; exact c3
  · cases l with
    | nil => rfl
    | cons r l =>
      obtain ⟨b, off, e, -⟩ := h 0 r rfl
      rw [h0] at e
      cases e
theorem cRn_one (l : List RunD) : ∀ u ∈ (l.map cRn).flatten, u.oneCell' = true := by
  intro u hu
  obtain ⟨x, hx, hu⟩ := List.mem_flatten.1 hu
  obtain ⟨r, -, rfl⟩ := List.mem_map.1 hx
  simp only [cRn, List.mem_cons, List.not_mem_nil, or_false] at hu
  rcases hu with rfl | rfl | rfl | rfl <;> rfl
theorem infoRR : (Tryd.prog.info? 22).map (fun i => (i.zero, i.size, i.bytes)) = some (some (.slice none 0 0), 1, 24) := by kernel_rfl
/-- Rows of runs, each owned, are documents. -/
theorem rdl_own {W : World} {B : Nat} {u : Value} {L : List (List RunD)} {R : List Value} (ho : W.ownsRow B 22 1 u L.length R) (hR : ∀ (j : Nat) (r : Value) (l : List RunD), R[j]? = some r → L[j]? = some l → W.ownsRow B 44 4 r l.length (l.map cRn).flatten) : RdL W u L := by
  have hl := Ln.own ho
  have hRl : R.length = L.length := by have := ho.1; omega
  obtain ⟨ao, cp, rfl, hc⟩ := hl.form
  refine ⟨ao, cp, rfl, hc, fun i l hi => ?_⟩
  have hiL := (List.getElem?_eq_some_iff.1 hi).1
  have hr : R[i]? = some R[i] := by simp [show i < R.length by omega]
  obtain ⟨g, off, cur, e, h1, h2⟩ := hl.at hr
  exact ⟨g, off, R[i], e, lt_heap h1, h2 _ _ hr, rdn_ownT (hR i _ l hr hi)⟩
end Go.Proofs.YtjimolafoihnpaaDoor.tc

/-
  The law's word (layer 24): a document of letters.
-/
namespace Go.Proofs.YtjimolafoihnpaaDoor.tc
open Go.Maps Go.ChangeShapes Go.WideShapes Go.ChangeAt Go.RowKit Go.PlainAid

/-- A document of letters. -/
def wdR (s : ByteArray) : List RunD := (List.range s.size).map fun i => ⟨0, bt s i, 0, s.extract i (i + 1)⟩
theorem wdR_take (s : ByteArray) (k : Nat) (h : k < s.size) : (wdR s).take (k + 1) = (wdR s).take k ++ [⟨0, bt s k, 0, s.extract k (k + 1)⟩] := by
  have hl : k < (wdR s).length := by simpa [wdR] using h
  rw [List.take_succ_eq_append_getElem hl]
  simp [wdR]
theorem slice_okT (s : ByteArray) (p : Nat) (W : World) (h : p < s.size) :
    (Instr.slice 9 (.string s) (some (.int .i64 (p : Int))) (some (.int .i64 ((p : Int) + 1))) none).run Tryd.prog W = .ok (.string (s.extract p (p + 1))) W := by
  rw [run_slice_string_if (P := Tryd.prog) (w := W) 9 s .i64 .i64 (p : Int) ((p : Int) + 1) Tryd.underlying9, if_pos (by omega), if_pos (by omega)]
  rfl
set_option maxRecDepth 20000 in
set_option maxHeartbeats 2000000 in
theorem word_any (s : ByteArray) (w : World) (hs : s.size ≤ 1000) :
    Calls Tryd.prog 16 #[.string s] w fun e w' => ∃ v, e = .returned v ∧ w'.ownsRow w.heap.size 44 4 v (wdR s).length ((wdR s).map cRn).flatten ∧ Below w.heap.size w w' := by
  obtain ⟨i0, hi, hz0, hz1, hz2⟩ := info_parts infoRun
  have hwl : (wdR s).length = s.size := by simp [wdR]
  go_enter Tryd.func16, Tryd.ntmps16
  go_wp2_with fail
  go_loopw [3, 4] (fun u iv wr => ∃ k : Nat, k ≤ s.size ∧ iv = .int .i64 (k : Int) ∧ wr.ownsRow w.heap.size 44 4 u k (((wdR s).take k).map cRn).flatten ∧ Below w.heap.size w wr) (fun _ iv _ => s.size - (Go.RowKit.intOf iv).toNat)
  case atStart => exact ⟨0, by omega, rfl, by simpa using World.ownsRow_nil _ _ _ _, Below.refl _ _⟩
  case round =>
    obtain ⟨k, hk, rfl, ho, hb⟩ := hrel
    by_cases hlt : k < s.size
    · have hlt' : (k : Int) < (s.size : Int) := by omega
      have HT : Hid ((((wdR s).take (k + 1)).map cRn).flatten = (((wdR s).take k).map cRn).flatten ++ [.int .i64 0, .int .i64 (bt s k), .int .i64 0, .string (s.extract k (k + 1))]) := by
        show _ = _
        rw [wdR_take s k hlt, List.map_append, List.flatten_append]
        rfl
      generalize (((wdR s).take k).map cRn).flatten = X at *
      obtain ⟨au, ku, rfl⟩ := own_form ho
      have hgb := get_bt s k hlt
      have hsl := fun W => slice_okT s k W hlt
      have hb0 := bt_nonneg s k
      have hb1 := bt_le s k
      have hwb : IntKind.i64.wrap (bt s k) = bt s k := by rw [IntKind.wrap_i64]; omega
      have hwk : IntKind.i64.wrap ((k : Int) + 1) = (k : Int) + 1 := by rw [IntKind.wrap_i64]; omega
      go_wp2_with fail
      go_region_law (refine step_append_lies _ (by rfl) (.tmp 11) (.tmp 23) 22 (by rfl) w.heap.size 44 i0 (.agg #[.int .i64 0, .int .i64 0, .int .i64 0, .string ⟨#[]⟩]) 4 40 Tryd.underlying22 hi hz0 hz1 hz2 rfl (by decide) (.slice au k ku) k X (by simp [Act.eval]) (World.ownsRow.alloc (w := wr.drew) ho _) ⟨wr.heap.size, 0, none⟩ 1 1 [.int .i64 0, .int .i64 (bt s k), .int .i64 0, .string (s.extract k (k + 1))] (by simp [Act.eval]) rfl (World.news_of_block (heap_alloc_new wr.drew _)) (by simp [Value.oneCell']) (by decide) (by unfold maxLen; omega) (by omega) (by have := hb.size; simp; omega) (wr.heap.size + 1) (by simp) ?_; intro g9 cap9 w9 hown hgr hgl hlt9)
      all_goals
        have hb9 := ((Below.drew hb).alloc hb.size _).grown hgr (by have := hb.size; simp; omega) (fun j hj => (ho.lt j hj).1)
        go_wp2_with fail
        exact ⟨⟨k + 1, by omega, by go_num, by rw [HT.out]; exact hown, hb9⟩, by simp [Go.RowKit.intOf]; omega⟩
    · obtain rfl : k = s.size := by omega
      rw [List.take_of_length_le (by omega)] at ho
      obtain ⟨au, ku, rfl⟩ := own_form ho
      go_wp2_with fail
      go_ret
      exact ⟨_, rfl, by rw [hwl]; exact ho, hb⟩
end Go.Proofs.YtjimolafoihnpaaDoor.tc

/-
  The program's follows.
-/
namespace Go.Proofs.YtjimolafoihnpaaDoor.tc
open Go.Maps Go.ChangeShapes Go.WideShapes Go.ChangeAt Go.RowKit Go.PlainAid

/-- Is a name the next one of the other one's origin? -/
def flw (x y : AtK) : Bool := decide (x.1 = y.1) && decide (x.2.1 = y.2.1) && decide (x.2.2 + 1 = y.2.2)
set_option maxRecDepth 20000 in
set_option maxHeartbeats 2000000 in
theorem follows_any (b i j : Nat) (D : List (List (Nat × Int))) (N : List AtK) (x y : AtK) (w : World) (hr : BkR w b D N) (hx : N[i]? = some x) (hy : N[j]? = some y) (h1 : 0 ≤ x.2.2 ∧ x.2.2 ≤ 9223372036854775000) :
    Calls Tryd.prog 53 #[.pointer (some ⟨b, 0, none⟩), .int .i64 (i : Int), .int .i64 (j : Int)] w fun e w' => e = .returned (.bool (flw x y)) ∧ Below w.heap.size w w' := by
  obtain ⟨dv, nv, hbx, htb, hln⟩ := hr
  obtain ⟨an, cn, rfl, hcn⟩ := hln.form
  have hiN : i < N.length := (List.getElem?_eq_some_iff.1 hx).1
  have hjN : j < N.length := (List.getElem?_eq_some_iff.1 hy).1
  have hiN' : (i : Int) < (N.length : Int) := by omega
  have hjN' : (j : Int) < (N.length : Int) := by omega
  have f0 := flat_at cN 3 cN_len N i x hx 0 (by decide)
  have f1 := flat_at cN 3 cN_len N i x hx 1 (by decide)
  have f2 := flat_at cN 3 cN_len N i x hx 2 (by decide)
  have g0 := flat_at cN 3 cN_len N j y hy 0 (by decide)
  have g1 := flat_at cN 3 cN_len N j y hy 1 (by decide)
  have g2 := flat_at cN 3 cN_len N j y hy 2 (by decide)
  obtain ⟨gn, on, cur, rfl, hgn, hc⟩ := hln.at f0
  have c0 : w.cell? ⟨gn, on + i * 3, none⟩ = some (.int .i64 x.1) := hc _ _ f0
  have c1 : w.cell? ⟨gn, on + i * 3 + 1, none⟩ = some (.int .i64 x.2.1) := hc _ _ f1
  have c2 : w.cell? ⟨gn, on + i * 3 + 2, none⟩ = some (.int .i64 x.2.2) := hc _ _ f2
  have d0 : w.cell? ⟨gn, on + j * 3, none⟩ = some (.int .i64 y.1) := hc _ _ g0
  have d1 : w.cell? ⟨gn, on + j * 3 + 1, none⟩ = some (.int .i64 y.2.1) := hc _ _ g1
  have d2 : w.cell? ⟨gn, on + j * 3 + 2, none⟩ = some (.int .i64 y.2.2) := hc _ _ g2
  obtain ⟨-, x1, -, -⟩ := hbx.cells
  have al := fun {p : Addr} {v : Value} (h : w.cell? p = some v) (o : Obj) => cell_alN h o
  have al2 := fun {p : Addr} {v : Value} (h : w.cell? p = some v) (o o2 : Obj) => cell_alN (cell_alN h o) o2
  have c0a := al c0
  have c1a := al c1
  have c2a := al c2
  have d0a := al d0
  have d1a := al d1
  have d2a := al d2
  have x1a := al x1
  have c0b := al2 c0
  have c1b := al2 c1
  have c2b := al2 c2
  have d0b := al2 d0
  have d1b := al2 d1
  have d2b := al2 d2
  have x1b := al2 x1
  clear al al2 f0 f1 f2 g0 g1 g2 hc hgn hln htb hx hy cur hbx
  have hwk : IntKind.i64.wrap (x.2.2 + 1) = x.2.2 + 1 := by rw [IntKind.wrap_i64]; omega
  obtain ⟨T, HT⟩ : ∃ T, Hid (flw x y = T) := ⟨_, rfl⟩
  rw [HT.out]
  go_enter Tryd.func53, Tryd.ntmps53
  go_upto_region 1 with fail
  go_big_region
  all_goals
    clear c0 c1 c2 d0 d1 d2 x1 c0a c1a c2a d0a d1a d2a x1a c0b c1b c2b d0b d1b d2b x1b
    by_cases e1 : x.1 = y.1
    · have e1' : (x.1 == y.1) = true := beq_iff_eq.2 e1
      by_cases e2 : x.2.1 = y.2.1
      · have e2' : (x.2.1 == y.2.1) = true := beq_iff_eq.2 e2
        by_cases e3 : x.2.2 + 1 = y.2.2
        · have e3' : (x.2.2 + 1 == y.2.2) = true := beq_iff_eq.2 e3
          have HX : Hid (T = true) := by show _ = _; rw [← HT.out, flw, decide_eq_true e1, decide_eq_true e2, decide_eq_true e3]; rfl
          clear e1 e2 e3 HT
          go_wp2_with fail
          go_ret
          exact ⟨by rw [HX.out]; rfl, (chain (alloc_b _ _) (alloc_b _ _)).drew⟩
        · have e3' : (x.2.2 + 1 == y.2.2) = false := beq_eq_false_iff_ne.2 e3
          have HX : Hid (T = false) := by show _ = _; rw [← HT.out, flw, decide_eq_false e3, Bool.and_false]
          clear e1 e2 e3 HT
          go_wp2_with fail
          go_ret
          exact ⟨by rw [HX.out]; rfl, (chain (alloc_b _ _) (alloc_b _ _)).drew⟩
      · have e2' : (x.2.1 == y.2.1) = false := beq_eq_false_iff_ne.2 e2
        have HX : Hid (T = false) := by show _ = _; rw [← HT.out, flw, decide_eq_false e2, Bool.and_false, Bool.false_and]
        clear e1 e2 HT
        go_wp2_with fail
        go_ret
        exact ⟨by rw [HX.out]; rfl, (chain (alloc_b _ _) (alloc_b _ _)).drew⟩
    · have e1' : (x.1 == y.1) = false := beq_eq_false_iff_ne.2 e1
      have HX : Hid (T = false) := by show _ = _; rw [← HT.out, flw, decide_eq_false e1, Bool.false_and, Bool.false_and]
      clear e1 HT
      go_wp2_with fail
      go_ret
      exact ⟨by rw [HX.out]; rfl, (chain (alloc_b _ _) (alloc_b _ _)).drew⟩
end Go.Proofs.YtjimolafoihnpaaDoor.tc
