/-
  Rows of pointers at a message's fields: the contract of behindKind.
-/
import Derived.Test.YtaopfdgebibpeaaWrA
import Derived.Test.YtaopfdgebibpeaaDlH
import Derived.Deep.RegionLaw
import Derived.Deep.AppendLies
namespace Go.Proofs.Ytaopfdgebibpeaa
open Go.ChangeShapes Go.WideShapes Go.ChangeAt Go.RowKit Go.PlainAid

theorem Try.infoPt : (Try.prog.info? 56).map (fun i => (i.zero, i.size, i.bytes)) = some (some (.pointer none), 1, 8) := by kernel_rfl
/-- A row of pointers at fields of the struct at p. -/
def ptV (p : Nat) (fs : List Nat) : List Value := fs.map (fun f => Value.pointer (some ⟨p, f, none⟩))
theorem ptV_len (p : Nat) (fs : List Nat) : (ptV p fs).length = fs.length := by simp [ptV]
theorem ptV_one (p : Nat) (fs : List Nat) : ∀ u ∈ ptV p fs, u.oneCell' = true := by
  intro u hu
  simp only [ptV, List.mem_map] at hu
  obtain ⟨f, -, rfl⟩ := hu
  rfl
/-- A row that is written out is owned. -/
theorem own_lit (u : World) (B e : Nat) (l : List Value) (n : Nat) (hB : B ≤ u.heap.size) (hn : l.length = n) (hm : n ≤ maxLen) : (u.alloc (.cells l.toArray e)).ownsRow B e 1 (.slice (some ⟨u.heap.size, 0, none⟩) n n) n l := by
  subst hn
  exact ⟨by simp, .inr ⟨u.heap.size, l.length, l.toArray, rfl, hB, heap_alloc_new u _, Nat.le_refl _, hm, by simp, by simp⟩⟩

theorem below_appD {base : Nat} {w wr w1 : World} {e n : Nat} {v : Value} {xs : List Value} {o : Obj} (hb : base ≤ w.heap.size) (hbl : Below base w wr) (hown : wr.ownsRow base e 1 v n xs) (hg : (wr.alloc o).drew.grownBy w1 v.ownBlock) : Below base w w1 :=
  ((hbl.alloc (Nat.le_trans hb hbl.size) o).drew).grown hg (by have := hbl.size; show _ ≤ (wr.alloc o).heap.size; simp; omega) (fun k hk => (hown.lt k hk).1)

/-- The fields behind the Kind, in the order of the form. -/
def bkF (k : Int) : List Nat := if k = 1 then [1, 2, 4, 3] else if k = 3 then [1, 2, 4, 5, 3] else [1, 2, 4]
theorem bkF_1 : bkF 1 = [1, 2, 4, 3] := rfl
theorem bkF_3 : bkF 3 = [1, 2, 4, 5, 3] := rfl
theorem bkF_no {k : Int} (h1 : k ≠ 1) (h3 : k ≠ 3) : bkF k = [1, 2, 4] := by rw [bkF, if_neg h1, if_neg h3]

theorem MB.alloc {W : World} {p : Nat} {m : MsD} {v : Value} (h : MB W p m v) (o : Obj) : MB (W.alloc o) p m v := h.below ((Below.refl _ W).alloc (Nat.le_refl _) o)

set_option maxRecDepth 20000 in
set_option maxHeartbeats 1000000 in
theorem behindKind_any (p : Nat) (m : MsD) (v : Value) (w : World) (hM : MB w p m v) :
    Calls Try.prog 17 #[.pointer (some ⟨p, 0, none⟩)] w fun e w' => ∃ u, e = .returned u ∧ w'.ownsRow w.heap.size 56 1 u (bkF m.k).length (ptV p (bkF m.k)) ∧ Below w.heap.size w w' := by
  obtain ⟨i0, hin, hz0, hz1, hz2⟩ := info_parts Try.infoPt
  go_enter Try.func17, Try.ntmps17
  go_wp2_with fail
  go_region
  have hO := own_lit w w.heap.size 56 (ptV p [1, 2, 4]) 3 (Nat.le_refl _) rfl (by decide)
  have hB : Below w.heap.size w (w.alloc (.cells (ptV p [1, 2, 4]).toArray 56)).drew := below_drewN ((Below.refl _ w).alloc (Nat.le_refl _) _) 1
  have hM2 : MB (w.alloc (.cells (ptV p [1, 2, 4]).toArray 56)).drew p m v := hM.alloc _
  have hO2 : (w.alloc (.cells (ptV p [1, 2, 4]).toArray 56)).drew.ownsRow w.heap.size 56 1 (.slice (some ⟨w.heap.size, 0, none⟩) 3 3) 3 (ptV p [1, 2, 4]) := hO
  clear hO hM
  have hz : w.heap.size < (w.alloc (.cells (ptV p [1, 2, 4]).toArray 56)).drew.heap.size := by show _ < (w.alloc _).heap.size; simp
  simp only [ptV, List.map_cons, List.map_nil] at hB hM2 hO2 hz
  generalize (w.alloc _).drew = w1 at *
  obtain ⟨c0, -, -, -, -, -, -⟩ := hM2.cells
  by_cases k1 : m.k = 1
  · have HF : Hid (bkF m.k = [1, 2, 4] ++ [3]) := by show _ = _; rw [k1]; rfl
    rw [k1] at c0
    clear k1
    go_wp2_with (at_builtin; refine wpList_append_own _ rfl (.tmp 20) (.tmp 24) 57 rfl w.heap.size 56 i0 (.pointer none) 1 8 Try.underlying57 hin hz0 hz1 hz2 rfl (by decide) _ _ _ rfl (hO2.alloc _) ⟨_, 0, none⟩ 1 1 (ptV p [3]) rfl rfl (many_new _ _ _) (ptV_one _ _) (by decide) (by decide) (by simp; omega) ?_; intro v4 w4 ho4 hg4 _)
    go_ret
    refine ⟨_, rfl, ?_, below_app (Nat.le_refl _) hB hO2 hg4⟩
    rw [HF.out]
    exact ho4
  by_cases k3 : m.k = 3
  · have HF : Hid (bkF m.k = [1, 2, 4] ++ [5, 3]) := by show _ = _; rw [k3]; rfl
    rw [k3] at c0
    clear k1 k3
    go_wp2_with fail
    go_region_law ((refine step_append_lies _ (by rfl) (.tmp 28) (.tmp 35) 57 (by rfl) w.heap.size 56 i0 (.pointer none) 1 8 Try.underlying57 hin hz0 hz1 hz2 rfl (by decide) (.slice (some ⟨w.heap.size, 0, none⟩) 3 3) 3 _ (by simp [Act.eval]) (hO2.alloc _) ⟨w1.heap.size, 0, none⟩ 2 2 (ptV p [5, 3]) (by simp [Act.eval]) rfl (many_new _ _ _) (ptV_one _ _) (by decide) (by decide) (by decide) (by simp; omega) (w1.heap.size + 1) (by simp) ?_; intro g4 c4 w4 ho4 hg4 _ _))
    all_goals
      go_wp2_with fail
      go_ret
      refine ⟨_, rfl, ?_, below_appD (Nat.le_refl _) hB hO2 hg4⟩
      rw [HF.out]
      exact ho4
  have HF : Hid (bkF m.k = [1, 2, 4]) := bkF_no k1 k3
  go_wp2_with fail
  go_ret
  refine ⟨_, rfl, ?_, hB⟩
  rw [HF.out]
  exact hO2
end Go.Proofs.Ytaopfdgebibpeaa

/-
  The contract of put: numbers of a message behind other bytes.
-/
namespace Go.Proofs.Ytaopfdgebibpeaa
open Go.ChangeShapes Go.WideShapes Go.ChangeAt Go.RowKit Go.PlainAid

set_option maxRecDepth 20000 in
set_option maxHeartbeats 1000000 in
theorem put_any (base p : Nat) (v u : Value) (l : List UInt8) (fs ns : List Nat) (w : World) (hb : base ≤ w.heap.size) (hp : p < base) (hln : fs.length = ns.length)
    (hcs : ∀ (i f n : Nat), fs[i]? = some f → ns[i]? = some n → w.cell? ⟨p, f, none⟩ = some (.int .i64 (n : Int))) (hn : ∀ n ∈ ns, n ≤ 1125899906842624) (hns : ns.length ≤ 10) (hl : l.length ≤ 100000000)
    (hown : w.ownsRow base 5 1 v l.length (bv l)) (hu : w.ownsRow base 56 1 u ns.length (ptV p fs)) :
    Calls Try.prog 16 #[v, u] w fun e w' => ∃ v', e = .returned v' ∧ w'.ownsRow base 5 1 v' (l ++ nmB ns).length (bv (l ++ nmB ns)) ∧ Below base w w' := by
  obtain ⟨i0, hin, hz0, hz1, hz2⟩ := info_parts Try.info5
  obtain ⟨ao, cp, rfl⟩ := own_form hu
  go_enter Try.func16, Try.ntmps16
  go_wp2
  go_loopw [0, 11] (fun d i wr => ∃ k : Nat, k ≤ ns.length ∧ i = .int .i64 (k : Int) ∧ wr.ownsRow base 5 1 d (l ++ nmB (ns.take k)).length (bv (l ++ nmB (ns.take k))) ∧ wr.ownsRow base 56 1 (.slice ao ns.length cp) ns.length (ptV p fs) ∧ base ≤ wr.heap.size ∧ Below base w wr) (fun _ i _ => ns.length - (intOf i).toNat)
  case atStart => exact ⟨0, by omega, rfl, by simpa [nmB] using hown, hu, hb, Below.refl _ _⟩
  case round =>
    obtain ⟨k, hk, rfl, ho, hpr, hbs, hbl⟩ := hrel
    clear hown hu
    by_cases hlt : k < ns.length
    · have hlt' : (k : Int) < (ns.length : Int) := by omega
      have hN := hn ns[k] (List.getElem_mem hlt)
      have hlt2 : k < fs.length := by omega
      have c1 := (hbl.cell (p := ⟨p, fs[k], none⟩) hp).trans (hcs k fs[k] ns[k] (by simp [hlt2]) (by simp [hlt]))
      have c0 : ∃ g, ao = some ⟨g, 0, none⟩ ∧ wr.cell? ⟨g, k, none⟩ = some (.pointer (some ⟨p, fs[k], none⟩)) := by
        rcases hpr.2 with ⟨e, h⟩ | ⟨g, cap, cur, e, -⟩
        · omega
        · injection e with e1 e2 e3
          subst e1
          refine ⟨g, rfl, ?_⟩
          have := hpr.cells (g := g) rfl k (.pointer (some ⟨p, fs[k], none⟩)) (by simp [ptV, hlt2])
          rw [addr_add, Nat.zero_add] at this
          exact this
      obtain ⟨g, rfl, c0⟩ := c0
      clear hcs
      have HT : Hid (nmB (ns.take (k + 1)) = nmB (ns.take k) ++ numB ns[k]) := nmB_take ns k hlt
      have hlen : (l ++ nmB (ns.take k)).length ≤ 100000100 := by
        have := nmB_len (ns.take k)
        rw [List.length_take] at this
        rw [List.length_append]; omega
      have hnl := numB_len (n := ns[k])
      generalize ns[k] = N at *
      generalize fs[k] = f at *
      have hc := pk.num_ok N wr hN
      have hmk := mk_size (numB N)
      generalize hX : l ++ nmB (ns.take k) = X at *
      have HX : Hid (l ++ nmB (ns.take (k + 1)) = X ++ numB N) := by show _ = _; rw [HT.out, ← List.append_assoc, hX]
      clear hX HT hn
      go_wp2_with (first | (go_at_call 31; refine hc.mono ?_; rintro e w1 ⟨rfl, hb1⟩; have ho1 := own_belowG ho hb1; have hs1 := hb1.size; have hp1 := own_belowG hpr hb1) | (at_builtin; refine Lib.wpList_append_own_string _ rfl (.tmp 22) (.tmp 23) 54 9 rfl base 5 i0 Try.underlying54 Try.underlying9 hin hz0 hz1 hz2 _ _ _ rfl ho1 (mk (numB N)) rfl (by rw [hmk]; unfold maxLen; omega) (by rw [hmk]; omega) (by omega) ?_; intro v4 w4 ho4 hg4 _))
      have R1 := own_str ho4 rfl
      have R2 : Below base w w4 := (hbl.trans (hb1.mono hbs)).grown hg4 (by omega) (fun k hk => (ho1.lt k hk).1)
      have R3 := hp1.kept hg4 (own_apart hp1 ho1 (by decide))
      have R4 : base ≤ w4.heap.size := by have := hg4.size; omega
      clear ho4 hg4 ho1 ho hpr hp1
      go_roundw
      case rel => exact ⟨k + 1, by omega, by go_num, by rw [HX.out]; exact R1, R3, R4, R2⟩
      case measure => simp [intOf]; omega
    · have e : k = ns.length := by omega
      subst e
      rw [List.take_length] at ho
      clear hn hcs
      go_wp2
      go_ret
      exact ⟨_, rfl, ho, hbl⟩
end Go.Proofs.Ytaopfdgebibpeaa
