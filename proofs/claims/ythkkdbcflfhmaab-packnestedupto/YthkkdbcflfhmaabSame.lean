/-
  Contracts: the reference's TakeList; two lists of texts that are the same.
-/
import Derived.Test.YthkkdbcflfhmaabLists
import Derived.Deep.QuietTactic
import Derived.BigQuiet
import Derived.WalkSmall
namespace Go.Proofs.Ythkkdbcflfhmaab
open Go.ChangeShapes Go.WideShapes Go.ChangeAt Go.RowKit Go.PlainAid

set_option maxHeartbeats 2000000 in
theorem refList_any (s : ByteArray) (a : Int) (w : World) (hs : s.size ≤ maxLen) :
    Calls Try.prog 25 #[.string s, .int .i64 a] w fun e w' => ∃ v, e = .returned (.tuple #[v, .int .i64 (tkL s a).2.1, .int .i64 (tkL s a).2.2]) ∧ w'.ownsRow w.heap.size 9 1 v (tkL s a).1.length (sv (tkL s a).1) ∧ Below w.heap.size w w' := by
  obtain ⟨i0, hin, hz0, hz1, hz2⟩ := info_parts Try.info9
  have hc := refNum_any s a w hs
  have hcut := tk_cut s a (m := 8000) (M := 1125899906842624) (by decide)
  rcases tk_cases s a 1125899906842624 with ⟨n, p, hr, hn, hap, hp, ha⟩ | ⟨er, hr, her⟩
  · rw [hr] at hc hcut
    simp only at hc hcut
    by_cases hbig : (8000 : Int) < (n : Int)
    · rw [if_pos ⟨trivial, hbig⟩] at hcut
      have e : tkL s a = ([], 0, 22) := by unfold tkL; rw [hcut]; rfl
      rw [e]
      clear hr hcut
      go_enter Try.func25, Try.ntmps25
      go_wp2_with (go_at_call 20; refine hc.mono ?_; rintro e w' ⟨rfl, rfl⟩)
      go_ret3
      exact ⟨_, rfl, World.ownsRow_nil _ _ _ _, Below.refl _ _⟩
    · rw [if_neg (by simp only [not_and]; exact fun _ => hbig)] at hcut
      have e : tkL s a = tkLgo s n p [] := by unfold tkL; rw [hcut]; rfl
      rw [e]
      clear hr hcut e
      have hn' : n ≤ 8000 := by omega
      go_enter Try.func25, Try.ntmps25
      go_wp2_with (go_at_call 20; refine hc.mono ?_; rintro e w' ⟨rfl, rfl⟩)
      go_loopw [8, 10, 11] (fun t v i wr => ∃ (k : Nat) (A : Int) (xs : List ByteArray), k ≤ n ∧ xs.length = k ∧ t = .int .i64 A ∧ i = .int .i64 (k : Int) ∧ wr.ownsRow w.heap.size 9 1 v xs.length (sv xs) ∧ Below w.heap.size w wr ∧ Hid (tkLgo s n p [] = tkLgo s (n - k) A xs))
        (fun _ _ i _ => n - (intOf i).toNat)
      case atStart => exact ⟨0, p, [], by omega, rfl, rfl, rfl, World.ownsRow_nil _ _ _ _, Below.refl _ _, rfl⟩
      case round =>
        obtain ⟨k, A, xs, hk, hxs, rfl, rfl, hown, hbl, HT⟩ := hrel
        by_cases hlt : k < n
        · have hf : n - k = (n - (k + 1)) + 1 := by omega
          rw [hf] at HT
          have hcl := refText_any s A wr hs
          have hsz := hbl.size
          by_cases hz : (tkT s A).2.2 = 0
          · have HR : Hid (tkLgo s n p [] = tkLgo s (n - (k + 1)) (tkT s A).2.1 (xs ++ [(tkT s A).1])) := by
              show _ = _
              rw [HT.out, tkLgo, if_pos hz]
            rw [hz] at hcl
            clear HT hz hc
            go_wp2_with (first | (go_at_call 22; refine hcl.mono ?_; rintro e w1 ⟨rfl, rfl⟩; clear hcl) | (at_builtin; refine wpList_append_own _ rfl (.tmp 42) (.tmp 44) 22 rfl w.heap.size 9 i0 (.string ⟨#[]⟩) 1 16 Try.underlying22 hin hz0 hz1 hz2 rfl (by decide) _ _ _ rfl (hown.alloc _) ⟨wr.heap.size, 0, none⟩ 1 1 [.string (tkT s A).1] rfl rfl (one_new _ _ _) (one_one _ rfl) (by unfold maxLen; omega) (by omega) (by simp; omega) ?_; intro v' w1 hown1 hgrow hnil))
            have R1 := own_snocS hown1 rfl
            have R2 := below_app (Nat.le_refl _) hbl hown hgrow
            clear hown1 hgrow hown hnil
            go_roundw
            case rel => exact ⟨k + 1, _, _, by omega, by simp; omega, rfl, by go_num, R1, R2, HR⟩
            case measure => simp [intOf]; omega
          · have HR : Hid (tkLgo s n p [] = ([], 0, (tkT s A).2.2)) := by
              show _ = _
              rw [HT.out, tkLgo, if_neg hz]
            have hz' : ((tkT s A).2.2 != 0) = true := by simpa using hz
            clear HT hc
            go_wp2_with (go_at_call 22; refine hcl.mono ?_; rintro e w1 ⟨rfl, rfl⟩; clear hcl)
            go_ret3
            exact ⟨_, by rw [HR.out]; rfl, by rw [HR.out]; exact World.ownsRow_nil _ _ _ _, hbl⟩
        · have hkn : n - k = 0 := by omega
          rw [hkn] at HT
          clear hc
          go_wp2
          go_ret3
          exact ⟨_, by rw [HT.out]; rfl, by rw [HT.out]; exact hown, hbl⟩
  · rw [hr] at hc hcut
    simp only at hc hcut
    rw [if_neg (by omega)] at hcut
    have e : tkL s a = ([], 0, er) := by unfold tkL; rw [hcut]; simp only; rw [if_neg (by omega)]
    rw [e]
    clear hr hcut
    have hne : (er != 0) = true := by simp; omega
    go_enter Try.func25, Try.ntmps25
    go_wp2_with (go_at_call 20; refine hc.mono ?_; rintro e w' ⟨rfl, rfl⟩)
    go_ret3
    exact ⟨_, rfl, World.ownsRow_nil _ _ _ _, Below.refl _ _⟩

/-- The slice v reads as these texts. -/
def Reads (w : World) (v : Value) (xs : List ByteArray) : Prop :=
  (xs = [] ∧ ∃ ao cp, v = .slice ao 0 cp) ∨ ∃ b off cp, v = .slice (some ⟨b, off, none⟩) xs.length cp ∧ ∀ i, i < xs.length → w.cell? ⟨b, off + i, none⟩ = some (.string (xs.getD i ⟨#[]⟩))

theorem reads_own {w : World} {base : Nat} {v : Value} {xs : List ByteArray} (h : w.ownsRow base 9 1 v xs.length (sv xs)) : Reads w v xs := by
  rcases h.2 with ⟨rfl, h0⟩ | ⟨g, cap, cur, rfl, _⟩
  · exact .inl ⟨List.eq_nil_of_length_eq_zero h0, _, _, rfl⟩
  · refine .inr ⟨g, 0, cap, rfl, fun i hi => ?_⟩
    have := h.cells (g := g) rfl i (.string (xs.getD i ⟨#[]⟩)) (by simp [sv, hi])
    have hadd : (⟨g, 0, none⟩ : Addr).add i = ⟨g, 0 + i, none⟩ := by unfold Addr.add; split <;> simp_all
    rw [hadd] at this
    exact this

set_option maxHeartbeats 1000000 in
theorem same_true (va vb : Value) (xs : List ByteArray) (w : World) (hx : xs.length ≤ maxLen) (ha : Reads w va xs) (hb : Reads w vb xs) :
    Calls Try.prog 16 #[va, vb] w fun e w' => e = .returned (.bool true) ∧ Below w.heap.size w w' := by
  unfold maxLen at hx
  rcases ha with ⟨rfl, ao, cp, rfl⟩ | ⟨b, off, cp, rfl, hca⟩
  · rcases hb with ⟨_, ao', cp', rfl⟩ | ⟨b', off', cp', rfl, hcb⟩
    · go_enter Try.func16, Try.ntmps16
      go_wp2
      go_rounds 1
      go_ret
      exact ⟨rfl, Below.refl _ _⟩
    · go_enter Try.func16, Try.ntmps16
      go_wp2
      go_rounds 1
      go_ret
      exact ⟨rfl, Below.refl _ _⟩
  · rcases hb with ⟨rfl, ao', cp', rfl⟩ | ⟨b', off', cp', rfl, hcb⟩
    · go_enter Try.func16, Try.ntmps16
      go_wp2
      go_rounds 1
      go_ret
      exact ⟨rfl, Below.refl _ _⟩
    · go_enter Try.func16, Try.ntmps16
      go_wp2
      go_loopw [5] (fun i wr => ∃ k : Nat, k ≤ xs.length ∧ i = .int .i64 (k : Int) ∧ Below w.heap.size w wr) (fun i _ => xs.length - (intOf i).toNat)
      case atStart => exact ⟨0, by omega, rfl, Below.refl _ _⟩
      case round =>
        obtain ⟨k, hk, rfl, hbl⟩ := hrel
        by_cases hlt : k < xs.length
        · have hlt' : (k : Int) < (xs.length : Int) := by omega
          have g1 := hca k hlt
          have g2 := hcb k hlt
          have f1 := (hbl.cell (World.block_lt_of_cell? w _ g1)).trans g1
          have f2 := (hbl.cell (World.block_lt_of_cell? w _ g2)).trans g2
          clear hca hcb g1 g2
          generalize xs.getD k ⟨#[]⟩ = x at f1 f2
          go_wp2
          go_quiet (fail)
          go_wp2
          go_roundw
          case rel => exact ⟨k + 1, by omega, by go_num, below_drewN hbl _⟩
          case measure => simp [intOf]; omega
        · clear hca hcb
          go_wp2
          go_ret
          exact ⟨rfl, hbl⟩
end Go.Proofs.Ythkkdbcflfhmaab
