/-
  The law's own functions (layer 24): some, copied, same, word.
-/
import Derived.Test.YtjimolafoihnpaaTrL
import Derived.Test.YtjimolafoihnpaaTrD
namespace Go.Proofs.Ytjimolafoihnpaa.tc
open Go.Maps Go.ChangeShapes Go.WideShapes Go.ChangeAt Go.RowKit Go.PlainAid

theorem run_append_nil (cp : Nat) {T e ty : TypeId} {i0 : TypeInfo} (w : World) (hT : Try.prog.underlying T = some (.slice e)) (hin : Try.prog.info? e = some i0) : (Builtin.append_ #[T, T] ty #[.slice none 0 0, .slice none 0 cp]).run Try.prog w = .ok (.slice none 0 0) w := by
  simp [Builtin.append_, run_underlying hT, sizeOf, typeInfo, hin, Builtin.lenOf, Builtin.firstCells]
set_option maxRecDepth 20000 in
/-- append(nil, l...): a row in memory of its own. -/
theorem wp_dupG {W : World} {o : Oper} {a : Act} {K : Act → World → Prop} {Q : Exit → Act → World → Prop} (s x : Operand) {T e : TypeId} {i0 : TypeInfo} {zv : Value} {z by8 n cp B : Nat} {ao : Option Addr} {xs : List Value} (hT : Try.prog.underlying T = some (.slice e)) (hin : Try.prog.info? e = some i0) (hz0 : i0.zero = some zv) (hz1 : i0.size = z) (hz2 : i0.bytes = by8) (hzs : zv.cells.size = z) (hzp : 0 < z)
    (ho : o.op = .call { callee := .builtin .append, args := #[s, x], argTypes := #[T, T] }) (hs : a.eval s = .slice none 0 0) (hx : a.eval x = .slice ao n cp)
    (hlen : xs.length = n * z) (hc : ∀ ad, ao = some ad → ∀ j u, xs[j]? = some u → W.cell? (ad.add j) = some u) (hn : ao = none → n = 0) (h1 : ∀ u ∈ xs, u.oneCell' = true) (h63 : n ≤ maxLen) (hby : n * by8 ≤ 140737488355328) (hB : B ≤ W.heap.size)
    (h : ∀ a' k' w', w'.ownsRow B e z (.slice a' n k') n xs → Below W.heap.size W w' → K (a.put o.dst (.slice a' n k')) w') : o.wp Try.prog a W K Q := by
  have hnil := World.ownsRow_nil W B e z
  cases ao with
  | none =>
    have h0 := hn rfl
    subst h0
    have hxs : xs = [] := List.eq_nil_of_length_eq_zero (by omega)
    subst hxs
    have hrun := run_append_nil (ty := o.type) cp W hT hin
    unfold Oper.wp
    simp [execOp, ho, resolve, invoke, builtin, hs, hx, hrun, Result.andThen]
    exact h none 0 W hnil (Below.refl _ _)
  | some ad =>
    refine wp_append_own W s x T ho B e i0 zv z by8 hT hin hz0 hz1 hz2 hzs hzp (.slice none 0 0) 0 [] hs hnil ad n cp xs hx hlen (hc ad rfl) h1 (by omega) (by rw [Nat.zero_add]; exact hby) hB ?_
    intro v' w' ho' hg _
    rw [Nat.zero_add, List.nil_append] at ho'
    obtain ⟨a', k', rfl⟩ := own_form ho'
    exact h a' k' w' ho' ⟨hg.os, hg.tape, hg.output, hg.size, fun k hk => hg.block k hk (by simp [Value.ownBlock])⟩
set_option maxRecDepth 20000 in
set_option maxHeartbeats 2000000 in
theorem docSame_true (va vb : Value) (l : List RunD) (w : World) (hm : l.length ≤ 1125899906842624) (ha : RdN w va l) (hb : RdN w vb l) :
    Calls Try.prog 22 #[va, vb] w fun e w' => e = .returned (.bool true) ∧ Below w.heap.size w w' := by
  obtain ⟨ao, ac, rfl, _, hac⟩ := ha
  obtain ⟨bo, bc, rfl, _, hbc⟩ := hb
  go_enter Try.func22, Try.ntmps22
  go_wp2
  go_loopw [5] (fun i wr => ∃ k : Nat, k ≤ l.length ∧ i = .int .i64 (k : Int) ∧ Below w.heap.size w wr) (fun i _ => l.length - (intOf i).toNat)
  case atStart => exact ⟨0, by omega, rfl, Below.refl _ _⟩
  case round =>
    obtain ⟨k, hk, rfl, hbl⟩ := hrel
    by_cases hlt : k < l.length
    · have hlt' : (k : Int) < (l.length : Int) := by omega
      obtain ⟨b1, o1, rfl, hb1, c0, c1, c2, c3⟩ := hac k l[k] (by simp [hlt])
      obtain ⟨b2, o2, rfl, hb2, d0, d1, d2, d3⟩ := hbc k l[k] (by simp [hlt])
      have hB1 : ∀ o, wr.cell? ⟨b1, o, none⟩ = w.cell? ⟨b1, o, none⟩ := fun o => hbl.cell (p := ⟨b1, o, none⟩) hb1
      have hB2 : ∀ o, wr.cell? ⟨b2, o, none⟩ = w.cell? ⟨b2, o, none⟩ := fun o => hbl.cell (p := ⟨b2, o, none⟩) hb2
      rw [← hB1] at c0 c1 c2 c3
      rw [← hB2] at d0 d1 d2 d3
      clear hB1 hB2 hac hbc
      generalize l[k] = o at *
      go_wp2
      go_quiet (fail)
      go_wp2
      go_roundw
      case rel => exact ⟨k + 1, by omega, by go_num, below_drewN hbl _⟩
      case measure => simp [intOf]; omega
    · clear hac hbc
      go_wp2
      go_ret
      exact ⟨rfl, hbl⟩
theorem rdn_srcT {W : World} {ao : Option Addr} {n cp : Nat} {l : List RunD} (h : RdN W (.slice ao n cp) l) : n = l.length ∧ (∀ ad, ao = some ad → ∀ j u, (l.map cRn).flatten[j]? = some u → W.cell? (ad.add j) = some u) ∧ (ao = none → l.length = 0) := by
  obtain ⟨a, c, e, -, h⟩ := h
  injection e with e1 e2 e3
  subst e1
  refine ⟨e2, fun ad had j u hu => ?_, fun h0 => ?_⟩
  · have hjl : j < l.length * 4 := by
      have := (List.getElem?_eq_some_iff.1 hu).1
      rwa [flat_len cRn 4 cRn_len] at this
    have hq : j / 4 < l.length := by omega
    obtain ⟨b, off, e, -, c0, c1, c2, c3⟩ := h (j / 4) l[j / 4] (by simp [hq])
    rw [had] at e
    injection e with e
    subst e
    rw [addr4]
    have hf := flat_at cRn 4 cRn_len l (j / 4) l[j / 4] (by simp [hq]) (j % 4) (Nat.mod_lt _ (by decide))
    rw [show j / 4 * 4 + j % 4 = j by omega, hu] at hf
    have hm : j % 4 = 0 ∨ j % 4 = 1 ∨ j % 4 = 2 ∨ j % 4 = 3 := by omega
    rcases hm with m | m | m | m <;> rw [m] at hf <;> simp [cRn] at hf <;> subst hf
    · rw [show off + j = off + j / 4 * 4 by omega]; exact c0
    · rw [show off + j = off + j / 4 * 4 + 1 by omega]; exact c1
    · rw [show off + j = off + j / 4 * 4 + 2 by omega]; exact c2
    · rw [show off + j = off + j / 4 * 4 + 3 by omega]; exact c3
  · cases l with
    | nil => rfl
    | cons r l =>
      obtain ⟨b, off, e, -⟩ := h 0 r rfl
      rw [h0] at e
      cases e
theorem cRn_one (l : List RunD) : ∀ u ∈ (l.map cRn).flatten, u.oneCell' = true := by
  intro u hu
  obtain ⟨x, hx, hu⟩ := List.mem_flatten.1 hu
  obtain ⟨r, -, rfl⟩ := List.mem_map.1 hx
  simp only [cRn, List.mem_cons, List.not_mem_nil, or_false] at hu
  rcases hu with rfl | rfl | rfl | rfl <;> rfl
theorem infoRR : (Try.prog.info? 30).map (fun i => (i.zero, i.size, i.bytes)) = some (some (.slice none 0 0), 1, 24) := by kernel_rfl
/-- Rows of runs, each owned, are documents. -/
theorem rdl_own {W : World} {B : Nat} {u : Value} {L : List (List RunD)} {R : List Value} (ho : W.ownsRow B 30 1 u L.length R) (hR : ∀ (j : Nat) (r : Value) (l : List RunD), R[j]? = some r → L[j]? = some l → W.ownsRow B 37 4 r l.length (l.map cRn).flatten) : RdL W u L := by
  have hl := Ln.own ho
  have hRl : R.length = L.length := by have := ho.1; omega
  obtain ⟨ao, cp, rfl, hc⟩ := hl.form
  refine ⟨ao, cp, rfl, hc, fun i l hi => ?_⟩
  have hiL := (List.getElem?_eq_some_iff.1 hi).1
  have hr : R[i]? = some R[i] := by simp [show i < R.length by omega]
  obtain ⟨g, off, cur, e, h1, h2⟩ := hl.at hr
  exact ⟨g, off, R[i], e, lt_heap h1, h2 _ _ hr, rdn_ownT (hR i _ l hr hi)⟩
set_option maxRecDepth 20000 in
set_option maxHeartbeats 2000000 in
theorem copied24_any (v : Value) (L : List (List RunD)) (w : World) (hr : RdL w v L) (hL : L.length ≤ 1048576) (hl : ∀ l ∈ L, l.length ≤ 1048576) :
    Calls Try.prog 6 #[v] w fun e w' => ∃ u, e = .returned u ∧ RdL w' u L ∧ Below w.heap.size w w' := by
  obtain ⟨i0, hi, hz0, hz1, hz2⟩ := info_parts infoRun
  obtain ⟨i1, hi1, hy0, hy1, hy2⟩ := info_parts infoRR
  obtain ⟨ao, cp, rfl, _, hcs⟩ := hr
  go_enter Try.func6, Try.ntmps6
  go_wp2_with fail
  go_loopw [3, 4] (fun u iv wr => ∃ (k : Nat) (R : List Value), k ≤ L.length ∧ iv = .int .i64 (k : Int) ∧ wr.ownsRow w.heap.size 30 1 u k R ∧ (∀ (j : Nat) (r : Value) (l : List RunD), R[j]? = some r → L[j]? = some l → wr.ownsRow w.heap.size 37 4 r l.length (l.map cRn).flatten) ∧ Below w.heap.size w wr) (fun _ iv _ => L.length - (Go.RowKit.intOf iv).toNat)
  case atStart => exact ⟨0, [], by omega, rfl, World.ownsRow_nil _ _ _ _, fun j r l h => by simp at h, Below.refl _ _⟩
  case round =>
    obtain ⟨k, R, hk, rfl, ho, hR, hb⟩ := hrel
    have hRl : R.length = k := by have := ho.1; omega
    by_cases hlt : k < L.length
    · have hlt' : (k : Int) < (L.length : Int) := by omega
      have hLk : L[k]? = some L[k] := by simp [hlt]
      obtain ⟨gb, go, uu, rfl, hgb, cu, hrn⟩ := hcs k _ hLk
      have hll := hl L[k] (List.getElem_mem hlt)
      obtain ⟨a1, k1, rfl, -, -⟩ := id hrn
      obtain ⟨-, q1, q2⟩ := rdn_srcT (hrn.below hb)
      have cu' := (hb.cell (p := ⟨gb, go + k, none⟩) hgb).trans cu
      obtain ⟨au, ku, rfl⟩ := own_form ho
      have hbs := hb.size
      clear cu hrn hcs hl
      generalize L[k] = l at *
      have hfl := flat_len cRn 4 cRn_len l
      have hf1 := cRn_one l
      go_wp2_with (at_builtin; first
        | (refine wpList_plain rfl (fun K hK => ?_); refine wp_dupG (.tmp 12) (.tmp 16) (B := w.heap.size) Try.underlying30 hi hz0 hz1 hz2 rfl (by decide) rfl rfl rfl hfl q1 q2 hf1 (by unfold maxLen; omega) (by omega) hbs ?_; intro a2 k2 w2 ho2 hb2; refine hK _ _ ?_; have ho3 := own_below ho hb2; have hb3 := chain hb hb2; have hbs3 := hb3.size)
        | (refine wpList_append_own _ rfl (.tmp 18) (.tmp 20) 22 rfl w.heap.size 30 i1 (.slice none 0 0) 1 24 Try.underlying22 hi1 hy0 hy1 hy2 rfl (by decide) (.slice au k ku) k R rfl (ho3.alloc _) ⟨w2.heap.size, 0, none⟩ 1 1 [.slice a2 l.length k2] rfl rfl (World.news_of_block (heap_alloc_new w2 _)) (by simp [Value.oneCell']) (by unfold maxLen; omega) (by omega) (by simp; omega) ?_; intro v6 w6 ho6 hg6 _))
      have s6 : Sm 37 w2 w6 := (Sm.below (alloc_b w2 _)).trans (Sm.own (ho3.alloc _) hg6 (by decide))
      have hb6 := (hb3.alloc hbs3 _).grown hg6 (by simp; omega) (fun j hj => (ho3.lt j hj).1)
      refine ⟨⟨k + 1, R ++ [.slice a2 l.length k2], by omega, by go_num, ho6, fun j q m h1 h2 => ?_, hb6⟩, by simp [Go.RowKit.intOf]; omega⟩
      by_cases hj : j < R.length
      · rw [List.getElem?_append_left hj] at h1
        exact own_sm (own_below (hR j q m h1 h2) hb2) s6
      · have hjk : j = k := by
          have := (List.getElem?_eq_some_iff.1 h1).1
          simp at this
          omega
        subst hjk
        rw [List.getElem?_append_right (by omega), hRl, Nat.sub_self] at h1
        cases h1
        rw [hLk] at h2
        cases h2
        exact own_sm ho2 s6
    · obtain rfl : k = L.length := by omega
      have hrl := rdl_own ho hR
      clear hcs hR
      obtain ⟨au, ku, rfl⟩ := own_form ho
      go_wp2_with fail
      go_ret
      exact ⟨_, rfl, hrl, hb⟩
set_option maxRecDepth 20000 in
set_option maxHeartbeats 1000000 in
theorem some24_any (v : Value) (L : List (List RunD)) (w : World) (hr : RdL w v L) :
    Calls Try.prog 5 #[v] w fun e w' => ∃ u, e = .returned u ∧ RdL w' u (L.take 12) ∧ Below w.heap.size w w' := by
  obtain ⟨ao, cp, rfl, hcp, hcs⟩ := hr
  by_cases h : 12 < L.length
  · have h' : (12 : Int) < (L.length : Int) := by omega
    have hd : RdL w (.slice ao 12 cp) (L.take 12) := by
      refine ⟨ao, cp, by rw [List.length_take, Nat.min_eq_left (by omega)], by rw [List.length_take]; omega, fun i l hi => hcs i l ?_⟩
      rw [List.getElem?_take] at hi
      split at hi
      · exact hi
      · cases hi
    have hc12 : (12 : Int) ≤ (cp : Int) := by omega
    obtain ⟨gb, go, uu, rfl, -⟩ := hcs 0 L[0] (by simp [show 0 < L.length by omega])
    clear hcs
    go_enter Try.func5, Try.ntmps5
    go_wp2_with fail
    go_ret
    exact ⟨_, rfl, hd, Below.refl _ _⟩
  · have h' : ¬ (12 : Int) < (L.length : Int) := by omega
    have hd : RdL w (.slice ao L.length cp) (L.take 12) := by
      rw [List.take_of_length_le (by omega)]
      exact ⟨ao, cp, rfl, hcp, hcs⟩
    clear hcs
    go_enter Try.func5, Try.ntmps5
    go_wp2_with fail
    go_ret
    exact ⟨_, rfl, hd, Below.refl _ _⟩
end Go.Proofs.Ytjimolafoihnpaa.tc
