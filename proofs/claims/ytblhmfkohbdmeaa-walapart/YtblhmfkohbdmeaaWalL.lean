/-
  sectorsOf.
-/
import Derived.Test.YtblhmfkohbdmeaaWalK
import Derived.Laws.BitsAllLaws
import Derived.Lib.QuoteBits
import Derived.Deep.MidRow
namespace Go.Proofs.Ytblhmfkohbdmeaa
open Go.RowKit Go.Maps

theorem Try.infoI : (Try.prog.info? 3).map (fun i => (i.zero, i.size, i.bytes)) = some (some (.int .i64 0), 1, 8) := by kernel_rfl

theorem one_one (x : Value) (h : x.oneCell' = true) : ∀ u ∈ [x], u.oneCell' = true := by intro u hu; simp at hu; subst hu; exact h
theorem one_new (wr : World) (x : Value) (e : Nat) : ∀ j u, [x][j]? = some u → (wr.alloc (.cells #[x] e)).cell? ((⟨wr.heap.size, 0, none⟩ : Addr).add j) = some u := by
  intro j u hj
  match j, hj with
  | 0, hj => simp at hj; subst hj; simp [Addr.add]

theorem below_app {base : Nat} {w wr w1 : World} {e n : Nat} {v : Value} {xs : List Value} {o : Obj} (hb : base ≤ w.heap.size) (hbl : Below base w wr) (hown : wr.ownsRow base e 1 v n xs) (hg : (wr.alloc o).grownBy w1 v.ownBlock) : Below base w w1 :=
  (hbl.alloc (Nat.le_trans hb hbl.size) o).grown hg (by have := hbl.size; simp; omega) (fun k hk => (hown.lt k hk).1)

/-- A row is kept where only blocks below its own have turned. -/
theorem own_only {w w' : World} {B e sz n : Nat} {v : Value} {xs : List Value} {S : List Nat} (h : w.ownsRow B e sz v n xs) (ho : Only S w w') (hS : ∀ g ∈ S, g < B) : w'.ownsRow B e sz v n xs := by
  obtain ⟨h1, h2⟩ := h
  refine ⟨h1, ?_⟩
  rcases h2 with h2 | ⟨g, cap, cur, e1, hb, hg, r⟩
  · exact .inl h2
  · exact .inr ⟨g, cap, cur, e1, hb, only_heap hg ho (fun hm => by have := hS g hm; omega), r⟩

/-- Two bytes make the number again. -/
theorem or_back (q : Nat) (h : q < 8192) : bits .or .i64 (((q : Int) / 256) * 256) ((q : Int) % 256) = (q : Int) := by
  have e1 : ((q : Int) / 256) * 256 = ((q / 256 * 256 : Nat) : Int) := by omega
  have e2 : (q : Int) % 256 = ((q % 256 : Nat) : Int) := by omega
  rw [e1, e2]
  show IntKind.i64.wrap ((BitVec.ofInt 64 ((q / 256 * 256 : Nat) : Int) ||| BitVec.ofInt 64 ((q % 256 : Nat) : Int)).toNat : Int) = _
  rw [BitVec.toNat_or, ofInt_u64 _ (by omega), ofInt_u64 _ (by omega)]
  have e3 : q / 256 * 256 ||| q % 256 = q := by
    have := Nat.shiftLeft_add_eq_or_of_lt (b := q % 256) (i := 8) (by omega) (q / 256)
    rw [Nat.shiftLeft_eq] at this
    have e : (2 : Nat) ^ 8 = 256 := rfl
    rw [e] at this
    rw [← this]
    omega
  rw [e3]
  exact Go.Lib.wrap_i64_small _ (by omega)

/-- A heading's cells. -/
theorem hd_cells {W : World} {b : Nat} {l : List Nat} (h : W.heap[b]? = some (.cells (bv (hdL l l.length)).toArray 97)) (hl : l.length ≤ 24) :
    W.cell? ⟨b, 0, none⟩ = some (.int .u8 (l.length : Int)) ∧ ∀ (j q : Nat), l[j]? = some q → q < 8192 → W.cell? ⟨b, 1 + 2 * j, none⟩ = some (.int .u8 ((q : Int) / 256)) ∧ W.cell? ⟨b, 2 + 2 * j, none⟩ = some (.int .u8 ((q : Int) % 256)) := by
  have g : ∀ i, i < 64 → W.cell? ⟨b, i, none⟩ = some (.int .u8 ((hdB l l.length i).toNat : Int)) := fun i hi => by
    rw [cell_at h]
    simp [bv, hdL, hi]
  refine ⟨?_, fun j q hj hq => ?_⟩
  · rw [g 0 (by omega)]
    simp [hdB]
    omega
  · obtain ⟨hjl, e⟩ := List.getElem?_eq_some_iff.1 hj
    have hgd : l.getD j 0 = q := by simp [List.getD, hj]
    rw [g (1 + 2 * j) (by omega), g (2 + 2 * j) (by omega)]
    have a2 : (1 + 2 * j - 1) / 2 = j := by omega
    have a3 : (1 + 2 * j - 1) % 2 = 0 := by omega
    have b2 : (2 + 2 * j - 1) / 2 = j := by omega
    have b3 : ¬ ((2 + 2 * j - 1) % 2 = 0) := by omega
    constructor
    · rw [hdB, if_neg (by omega), a2, if_pos hjl, if_pos a3, hgd]
      simp
      omega
    · rw [hdB, if_neg (by omega), b2, if_pos hjl, if_neg b3, hgd]
      simp

set_option maxRecDepth 20000 in
set_option maxHeartbeats 400000 in
/-- No heading: too many. -/
theorem sectorsOf_no {w : World} (r : Option Addr) (t : Sec) (h64 : t.length = 64) (h24 : 24 < (t.getD 0 0).toNat) :
    Calls Try.prog 78 #[.pointer r, .agg (bv t).toArray] w fun e w' => e = .returned (.tuple #[.slice none 0 0, .bool false]) ∧ Below w.heap.size w w' := by
  have hc : (w.alloc (.cells (bv t).toArray 97)).cell? ⟨w.heap.size, 0, none⟩ = some (.int .u8 ((t.getD 0 0).toNat : Int)) := by
    rw [cell_at (heap_alloc_last w _)]
    have : 0 < t.length := by omega
    simp [bv, List.getD, this]
  have h24' : (24 : Int) < ((t.getD 0 0).toNat : Int) := by omega
  have hsz : (bv t).length = 64 := by rw [bv_len, h64]
  clear h24
  generalize (t.getD 0 0).toNat = n at *
  go_enter Try.func78, Try.ntmps78
  go_wp2_with fail
  go_ret2
  exact ⟨rfl, (Below.refl _ _).alloc (Nat.le_refl _) _⟩

set_option maxRecDepth 20000 in
set_option maxHeartbeats 4000000 in
theorem sectorsOf_ok {w : World} {r p bs bw : Nat} {age : Int} {lost : Bool} {s : DevS} {N : Nat} (hw : IsWal w r p age lost) (hd : IsDev w p bs bw s) (hN : s.n = N + 25) (l : List Nat) (hl : l.length ≤ 24) (hlN : ∀ x ∈ l, x < N) (hri : l.Pairwise (· < ·)) :
    Calls Try.prog 78 #[.pointer (some ⟨r, 0, none⟩), .agg (bv (hdL l l.length)).toArray] w fun e w' => ∃ v, e = .returned (.tuple #[v, .bool true]) ∧ w'.ownsRow w.heap.size 3 1 v l.length (iv l) ∧ Below w.heap.size w w' := by
  obtain ⟨i0, hi, hz0, hz1, hz2⟩ := info_parts Try.infoI
  have hN8 : N ≤ 8192 := by have := hd.hi; omega
  have hbx := heap_alloc_last w (.cells (bv (hdL l l.length)).toArray 97)
  have h64 := hdL_len l l.length
  have hsz : (bv (hdL l l.length)).length = 64 := by rw [bv_len, h64]
  have hA : Below w.heap.size w (w.alloc (.cells (bv (hdL l l.length)).toArray 97)) := (Below.refl _ _).alloc (Nat.le_refl _) _
  have hAs : (w.alloc (.cells (bv (hdL l l.length)).toArray 97)).heap.size = w.heap.size + 1 := World.size_alloc _ _
  obtain ⟨hc0, hcj⟩ := hd_cells hbx hl
  have hc0' := hc0
  have hl' : (l.length : Int) ≤ 24 := by omega
  have hn24 : ¬ (24 : Int) < (l.length : Int) := by omega
  have hwA := hw.below hA
  have hdA := hd.below hA
  have Ht : Hid (∃ t, t = hdL l l.length) := ⟨_, rfl⟩
  go_enter Try.func78, Try.ntmps78
  go_wp2_with fail
  generalize HW0 : w.alloc (.cells (bv (hdL l l.length)).toArray 97) = W0 at *
  clear HW0
  go_loopw [6, 15] (fun v i wr => ∃ k : Nat, k ≤ l.length ∧ i = .int .i64 (k : Int) ∧ wr.ownsRow W0.heap.size 3 1 v k (iv (l.take k)) ∧ Below W0.heap.size W0 wr)
    (fun _ i _ => l.length - (intOf i).toNat)
  case atStart => exact ⟨0, Nat.zero_le _, rfl, World.ownsRow_nil _ _ _ _, Below.refl _ _⟩
  case round =>
    obtain ⟨k, hk, rfl, hown, hB⟩ := hrel
    have hbk := (hB.block w.heap.size (by omega)).trans hbx
    by_cases hlt : k < l.length
    · have hlt' : (k : Int) < (l.length : Int) := by omega
      have hq8 : l[k] < N := hlN _ (List.getElem_mem hlt)
      obtain ⟨ck, hck⟩ := hd_cells hbk hl
      obtain ⟨ck1, ck2⟩ := hck k l[k] (by simp [hlt]) (by omega)
      clear hck
      have hor := or_back l[k] (by omega)
      have hts : Hid (l.take (k + 1) = l.take k ++ [l[k]]) := take_snoc l k hlt
      have hprev : ∀ (hk0 : 0 < k), l[k - 1] < l[k] := fun hk0 => List.pairwise_iff_getElem.1 hri (k - 1) k (by omega) hlt (by omega)
      have hsk : k ≤ 24 := by omega
      have cHas : ∀ j, Calls Try.prog 47 #[.pointer (some ⟨r, 0, none⟩), .int .i64 (l[k] : Int)] (wr.drewN j) fun e w' => e = .returned (.bool true) ∧ w' = wr.drewN j := fun j => by
        have := whas_any ((hwA.below hB).kept (Only.drewN [] wr j) (by simp)) ((hdA.below hB).drewN j) (l[k] : Int)
        rw [show (decide (0 ≤ (l[k] : Int)) && decide ((l[k] : Int) < (s.n : Int) - 25)) = true by simp; omega] at this
        exact this
      obtain ⟨ao, cp, rfl, hao⟩ := own_shape hown
      have HR : Hid _ := hown
      have hsq : (l[k] : Int) < 8192 := by omega
      have hkc : (k : Int) ≤ 24 := by omega
      have hk00 : (0 : Int) ≤ (k : Int) := by omega
      have hnow : Hid (Below W0.heap.size W0 wr) := hB
      have hsz8 := hB.size
      have b1a : 0 ≤ (l[k] : Int) / 256 := by omega
      have b1b : (l[k] : Int) / 256 < 256 := by omega
      have b2a : 0 ≤ (l[k] : Int) % 256 := by omega
      have b2b : (l[k] : Int) % 256 < 256 := by omega
      by_cases hk0 : 0 < k
      · have hp := hprev hk0
        obtain ⟨g, rfl, hg0, hg1, hcp, hcell⟩ := hao hk0
        have hcl := hcell (k - 1) (by omega)
        rw [show (iv (l.take k))[k - 1]? = some (.int .i64 (l[k - 1] : Int)) by simp [iv, show k - 1 < k by omega, show k - 1 < l.length by omega]] at hcl
        have hp' : ¬ (l[k] : Int) ≤ (l[k - 1] : Int) := by omega
        have hk0' : (0 : Int) < (k : Int) := by omega
        clear hprev hcell hao hp
        generalize l[k - 1] = q0 at *
        generalize l[k] = q at *
        generalize (q : Int) / 256 = b1 at *
        generalize (q : Int) % 256 = b2 at *
        clear hcj hc0' hc0 hown hlN hri hbk hlt hk hbx hsz h64 hAs Ht hA hN hd hw hwA hdA ck hl
        have HRd : Hid (∀ j, (wr.drewN j).ownsRow W0.heap.size 3 1 (.slice (some ⟨g, 0, none⟩) k cp) k (iv (l.take k))) := fun j => HR.out
        have hBd : Hid (∀ j, Below W0.heap.size W0 (wr.drewN j)) := fun j => hnow.out.trans ((Only.drewN [] wr j).below hsz8 (by simp))
        clear HR hB
        go_wp2_with fail
        go_quiet (fail)
        clear hor ck1 ck2 b1a b1b b2a b2b hsq hq8 hk00 hnow
        go_wp2_with (first
          | (go_at_call 47; refine (cHas _).mono ?_; rintro e w' ⟨rfl, hw⟩; rw [hw]; clear hw w')
          | (at_builtin; refine wpList_append_own _ rfl (.tmp 49) (.tmp 51) 35 rfl W0.heap.size 3 i0 (.int .i64 0) 1 8 Try.underlying35 hi hz0 hz1 hz2 rfl (by decide) _ _ _ rfl ((HRd.out nq).alloc _) ⟨(wr.drewN nq).heap.size, 0, none⟩ 1 1 [.int .i64 (q : Int)] rfl rfl (one_new _ _ _) (one_one _ rfl) (by unfold maxLen; omega) (by omega) (by simp; omega) ?_) | go_in)
        intro v' w1 hown1 hgrow _
        have hB1 := below_app (Nat.le_refl _) (hBd.out nq) (HRd.out nq) hgrow
        have hown2 : w1.ownsRow W0.heap.size 3 1 v' (k + 1) (iv (l.take (k + 1))) := by
          rw [hts.out]
          simpa [iv] using hown1
        clear hown1 hgrow
        go_wp2_with fail
        go_roundw
        case rel => exact ⟨k + 1, by omega, by go_num, hown2, hB1⟩
        case measure => simp [intOf]; omega
      · have hk0' : ¬ (0 : Int) < (k : Int) := by omega
        have hk0 : Hid (¬ 0 < k) := hk0
        clear hprev hao
        generalize l[k] = q at *
        generalize (q : Int) / 256 = b1 at *
        generalize (q : Int) % 256 = b2 at *
        clear hcj hc0' hc0 hown hlN hri hbk hlt hk hbx hsz h64 hAs Ht hA hN hd hw hwA hdA ck hl
        have HRd : Hid (∀ j, (wr.drewN j).ownsRow W0.heap.size 3 1 (.slice ao k cp) k (iv (l.take k))) := fun j => HR.out
        have hBd : Hid (∀ j, Below W0.heap.size W0 (wr.drewN j)) := fun j => hnow.out.trans ((Only.drewN [] wr j).below hsz8 (by simp))
        clear HR hB
        go_wp2_with fail
        go_quiet (fail)
        clear hor ck1 ck2 b1a b1b b2a b2b hsq hq8 hk00 hnow
        go_wp2_with (first
          | (go_at_call 47; refine (cHas _).mono ?_; rintro e w' ⟨rfl, hw⟩; rw [hw]; clear hw w')
          | (at_builtin; refine wpList_append_own _ rfl (.tmp 49) (.tmp 51) 35 rfl W0.heap.size 3 i0 (.int .i64 0) 1 8 Try.underlying35 hi hz0 hz1 hz2 rfl (by decide) _ _ _ rfl ((HRd.out nq).alloc _) ⟨(wr.drewN nq).heap.size, 0, none⟩ 1 1 [.int .i64 (q : Int)] rfl rfl (one_new _ _ _) (one_one _ rfl) (by unfold maxLen; omega) (by omega) (by simp; omega) ?_) | go_in)
        intro v' w1 hown1 hgrow _
        have hB1 := below_app (Nat.le_refl _) (hBd.out nq) (HRd.out nq) hgrow
        have hown2 : w1.ownsRow W0.heap.size 3 1 v' (k + 1) (iv (l.take (k + 1))) := by
          rw [hts.out]
          simpa [iv] using hown1
        clear hown1 hgrow
        go_wp2_with fail
        go_roundw
        case rel => exact ⟨k + 1, by omega, by go_num, hown2, hB1⟩
        case measure => simp [intOf]; omega
    · obtain rfl : k = l.length := by omega
      have hlt' : ¬ (l.length : Int) < (l.length : Int) := by omega
      rw [List.take_length] at hown
      obtain ⟨ao, cp, rfl, hao⟩ := own_shape hown
      have hsz8 := hB.size
      have hrd : ∀ W : World, W = wr.drew → ∀ (i x : Nat), l[i]? = some x → ∃ g, ao = some ⟨g, 0, none⟩ ∧ g < W.heap.size ∧ l.length ≤ cp ∧ W.cell? ⟨g, i, none⟩ = some (.int .i64 (x : Int)) := by
        intro W hW i x hx
        subst hW
        obtain ⟨hi, rfl⟩ := List.getElem?_eq_some_iff.1 hx
        obtain ⟨g, rfl, hg0, hg1, hcp, hcell⟩ := hao (by omega)
        refine ⟨g, rfl, hg1, hcp, ?_⟩
        show wr.cell? ⟨g, i, none⟩ = _
        rw [hcell i hi]
        simp [iv, hi]
      have cG := headingOf_any ao cp l wr.drew hl (fun x hx => by have := hlN x hx; omega) (hrd _ rfl)
      have HR : Hid _ := hown
      have hran : wr.rangeAt w.heap.size 0 (bv (hdL l l.length)) := fun j u hj => by
        rw [cell_at hbk]
        simpa using hj
      have hran' : wr.drew.rangeAt w.heap.size 0 (bv (hdL l l.length)) := hran
      have heq : ∀ w, (Op.equalIn 10000 97 (.agg (bv (hdL l l.length)).toArray) (.agg (bv (hdL l l.length)).toArray)).run Try.prog w = .ok (hdL l l.length == hdL l l.length) w := eq_blocks _ _ h64 h64
      rw [beq_self_eq_true] at heq
      have hu := Try.underlying97
      have hiW : (Try.prog.info? 97).map (·.size) = some (bv (hdL l l.length)).length := by rw [hsz]; exact Try.sizeW
      have hgd := Try.noGuard
      have hA' : W0.heap.size = w.heap.size + 1 := hAs
      have hAB : Below w.heap.size w W0 := hA
      have hnow : Hid (Below W0.heap.size W0 wr) := hB
      have hbl := heap_lt hbk
      clear hcj hc0' hc0 hao hrd hlN hri hown hbk hbx h64 hsz hAs Ht hA hN hd hw hwA hdA hl hl' hn24 hB hran
      generalize hdL l l.length = t at *
      go_wp2_with fail
      go_region_held3 (fun W => W.rangeAt w.heap.size 0 (bv t)) (first | assumption | go_keep)
        (first
          | (go_at_call 73; refine cG.mono ?_; rintro e w4 ⟨rfl, hb4⟩; have hr4 : w4.rangeAt w.heap.size 0 (bv t) := fun j u hj => (hb4.cell (p := ⟨w.heap.size, 0 + j, none⟩) hbl).trans (hran' j u hj)))
      all_goals
        go_wp2_with fail
        go_ret2
        refine ⟨_, rfl, ?_, ?_⟩
        · exact ownsRow_base_a (own_only HR.out ((Only.drew [] wr).trans (Only.of_below hb4)) (by simp)) (by omega)
        · exact ((hAB.trans (hnow.out.mono (by omega))).drew).trans (hb4.mono (by show w.heap.size ≤ wr.heap.size; omega))
end Go.Proofs.Ytblhmfkohbdmeaa
