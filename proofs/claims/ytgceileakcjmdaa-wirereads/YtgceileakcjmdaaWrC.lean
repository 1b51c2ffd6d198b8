/-
  The contract of put: numbers of a message behind other bytes.
-/
import Derived.Test.YtgceileakcjmdaaWrB
namespace Go.Proofs.Ytgceileakcjmdaa
open Go.ChangeShapes Go.WideShapes Go.ChangeAt Go.RowKit Go.PlainAid

set_option maxRecDepth 20000 in
set_option maxHeartbeats 1000000 in
theorem put_any (base p : Nat) (v u : Value) (l : List UInt8) (fs ns : List Nat) (w : World) (hb : base ≤ w.heap.size) (hp : p < base) (hln : fs.length = ns.length)
    (hcs : ∀ (i f n : Nat), fs[i]? = some f → ns[i]? = some n → w.cell? ⟨p, f, none⟩ = some (.int .i64 (n : Int))) (hn : ∀ n ∈ ns, n ≤ 1125899906842624) (hns : ns.length ≤ 10) (hl : l.length ≤ 100000000)
    (hown : w.ownsRow base 5 1 v l.length (bv l)) (hu : w.ownsRow base 42 1 u ns.length (ptV p fs)) :
    Calls Try.prog 16 #[v, u] w fun e w' => ∃ v', e = .returned v' ∧ w'.ownsRow base 5 1 v' (l ++ nmB ns).length (bv (l ++ nmB ns)) ∧ Below base w w' := by
  obtain ⟨i0, hin, hz0, hz1, hz2⟩ := info_parts Try.info5
  obtain ⟨ao, cp, rfl⟩ := own_form hu
  go_enter Try.func16, Try.ntmps16
  go_wp2
  go_loopw [0, 11] (fun d i wr => ∃ k : Nat, k ≤ ns.length ∧ i = .int .i64 (k : Int) ∧ wr.ownsRow base 5 1 d (l ++ nmB (ns.take k)).length (bv (l ++ nmB (ns.take k))) ∧ wr.ownsRow base 42 1 (.slice ao ns.length cp) ns.length (ptV p fs) ∧ base ≤ wr.heap.size ∧ Below base w wr) (fun _ i _ => ns.length - (intOf i).toNat)
  case atStart => exact ⟨0, by omega, rfl, by simpa [nmB] using hown, hu, hb, Below.refl _ _⟩
  case round =>
    obtain ⟨k, hk, rfl, ho, hpr, hbs, hbl⟩ := hrel
    clear hown hu
    by_cases hlt : k < ns.length
    · have hlt' : (k : Int) < (ns.length : Int) := by omega
      have hN := hn ns[k] (List.getElem_mem hlt)
      have hlt2 : k < fs.length := by omega
      have c1 := (hbl.cell (p := ⟨p, fs[k], none⟩) hp).trans (hcs k fs[k] ns[k] (by simp [hlt2]) (by simp [hlt]))
      have c0 : ∃ g, ao = some ⟨g, 0, none⟩ ∧ wr.cell? ⟨g, k, none⟩ = some (.pointer (some ⟨p, fs[k], none⟩)) := by
        rcases hpr.2 with ⟨e, h⟩ | ⟨g, cap, cur, e, -⟩
        · omega
        · injection e with e1 e2 e3
          subst e1
          refine ⟨g, rfl, ?_⟩
          have := hpr.cells (g := g) rfl k (.pointer (some ⟨p, fs[k], none⟩)) (by simp [ptV, hlt2])
          rw [addr_add, Nat.zero_add] at this
          exact this
      obtain ⟨g, rfl, c0⟩ := c0
      clear hcs
      have HT : Hid (nmB (ns.take (k + 1)) = nmB (ns.take k) ++ numB ns[k]) := nmB_take ns k hlt
      have hlen : (l ++ nmB (ns.take k)).length ≤ 100000100 := by
        have := nmB_len (ns.take k)
        rw [List.length_take] at this
        rw [List.length_append]; omega
      have hnl := numB_len (n := ns[k])
      generalize ns[k] = N at *
      generalize fs[k] = f at *
      have hc := pk.num_ok N wr hN
      have hmk := mk_size (numB N)
      generalize hX : l ++ nmB (ns.take k) = X at *
      have HX : Hid (l ++ nmB (ns.take (k + 1)) = X ++ numB N) := by show _ = _; rw [HT.out, ← List.append_assoc, hX]
      clear hX HT hn
      go_wp2_with (first | (go_at_call 40; refine hc.mono ?_; rintro e w1 ⟨rfl, hb1⟩; have ho1 := own_belowG ho hb1; have hs1 := hb1.size; have hp1 := own_belowG hpr hb1) | (at_builtin; refine Lib.wpList_append_own_string _ rfl (.tmp 22) (.tmp 23) 40 9 rfl base 5 i0 Try.underlying40 Try.underlying9 hin hz0 hz1 hz2 _ _ _ rfl ho1 (mk (numB N)) rfl (by rw [hmk]; unfold maxLen; omega) (by rw [hmk]; omega) (by omega) ?_; intro v4 w4 ho4 hg4 _))
      have R1 := own_str ho4 rfl
      have R2 : Below base w w4 := (hbl.trans (hb1.mono hbs)).grown hg4 (by omega) (fun k hk => (ho1.lt k hk).1)
      have R3 := hp1.kept hg4 (own_apart hp1 ho1 (by decide))
      have R4 : base ≤ w4.heap.size := by have := hg4.size; omega
      clear ho4 hg4 ho1 ho hpr hp1
      go_roundw
      case rel => exact ⟨k + 1, by omega, by go_num, by rw [HX.out]; exact R1, R3, R4, R2⟩
      case measure => simp [intOf]; omega
    · have e : k = ns.length := by omega
      subst e
      rw [List.take_length] at ho
      clear hn hcs
      go_wp2
      go_ret
      exact ⟨_, rfl, ho, hbl⟩
end Go.Proofs.Ytgceileakcjmdaa
