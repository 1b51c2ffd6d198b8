/-
  Contract: the reference's List.
-/
import Derived.Test.YthkkdbcflfhmaabRefW
namespace Go.Proofs.Ythkkdbcflfhmaab
open Go.ChangeShapes Go.WideShapes Go.ChangeAt Go.RowKit Go.PlainAid

theorem conv_made (l : List UInt8) (base : Nat) (w : World) (hb : base ≤ w.heap.size) (hl : l.length ≤ maxLen) :
    ∃ v0 w0, (convert 9 46 (.string (mk l))).run Try.prog w = .ok v0 w0 ∧ OwnM w0 base v0 l ∧ Below w.heap.size w w0 := by
  refine ⟨_, _, run_bytes_of_string w 9 46 5 (mk l) Try.underlying9 Try.underlying46 Try.underlying5, ?_, ?_⟩
  · have := made_marked w (mk l) base hb (by rw [mk_size]; exact hl)
    rw [mk_toList] at this
    exact this
  · exact Below.alloc (Below.refl _ w).drew (Nat.le_refl _) _

theorem ownM_lt {w : World} {base : Nat} {v : Value} {l : List UInt8} (h : OwnM w base v l) : ∀ k, v.ownBlock = some k → base ≤ k := by
  obtain ⟨g, cap, cur, fz, rfl, hbg, _⟩ := h
  intro k hk
  simp [Value.ownBlock] at hk
  omega

theorem ownM_below {w w' : World} {base : Nat} {v : Value} {l : List UInt8} (h : OwnM w base v l) (hb : Below w.heap.size w w') : OwnM w' base v l := by
  obtain ⟨g, cap, cur, fz, rfl, hbg, hg, rest⟩ := h
  refine ⟨g, cap, cur, fz, rfl, hbg, ?_, rest⟩
  rw [hb.block g (Array.getElem?_eq_some_iff.1 hg).1]
  exact hg

set_option maxHeartbeats 2000000 in
theorem refListW_any (v : Value) (xs : List ByteArray) (w : World) (hm : xs.length ≤ maxLen) (hsz : ∀ s ∈ xs, s.size ≤ maxLen) (hr : Reads w v xs) :
    Calls Try.prog 14 #[v] w fun e w' => e = .returned (.tuple #[.string (listR xs).1, .int .i64 (listR xs).2]) ∧ Below w.heap.size w w' := by
  unfold maxLen at hm
  obtain ⟨i0, hin, hz0, hz1, hz2⟩ := info_parts Try.info5
  obtain ⟨ao, cp, rfl, hao⟩ := reads_at hr
  clear hr
  by_cases hlen : xs.length ≤ 8000
  · have hn := numB_len (n := xs.length)
    have HS : Hid (∀ s ∈ xs, s.size ≤ maxLen) := hsz
    clear hsz
    go_enter Try.func14, Try.ntmps14
    go_wp2_with (go_at_call 10; refine (refNumW_ok xs.length _ (by omega)).mono ?_; rintro e w1 ⟨rfl, hb1⟩; obtain ⟨v0, w0, hcv, hown0, hb0⟩ := conv_made (numB xs.length) w.heap.size w1 hb1.size (by unfold maxLen; omega))
    clear hcv
    go_loopw [6, 7] (fun t i wr => ∃ k : Nat, k ≤ xs.length ∧ i = .int .i64 (k : Int) ∧ OwnM wr w.heap.size t (part xs k) ∧ Below w.heap.size w wr ∧ Hid (∀ j, j < k → (xs.getD j ⟨#[]⟩).size ≤ 20000)) (fun _ i _ => xs.length - (intOf i).toNat)
    case atStart => exact ⟨0, by omega, rfl, by rw [part_zero]; exact hown0, chain hb1 hb0, fun j hj => by omega⟩
    case round =>
      obtain ⟨k, hk, rfl, hown, hbl, hall⟩ := hrel
      by_cases hlt : k < xs.length
      · obtain ⟨b, off, rfl, hcell⟩ := hao (by omega)
        have g1 := hcell k hlt
        have c1 := (hbl.cell (World.block_lt_of_cell? w _ g1)).trans g1
        have HX : Hid (xs.getD k ⟨#[]⟩ ∈ xs) := by
          show _ ∈ _
          simp [hlt]
        have HK : Hid (∀ j, j < k + 1 → (xs.getD k ⟨#[]⟩).size ≤ 20000 → (xs.getD j ⟨#[]⟩).size ≤ 20000) := fun j hj hx => by
          by_cases e : j = k
          · subst e; exact hx
          · exact hall.out j (by omega)
        have HP : Hid (part xs (k + 1) = part xs k ++ textB (xs.getD k ⟨#[]⟩)) := part_succ xs k hlt
        have hpl : (part xs k).length ≤ 10 + 8000 * 20010 := by
          have h1 := flat_len (xs.take k) (fun s hs => by
            obtain ⟨j, hj, rfl⟩ := List.getElem_of_mem hs
            rw [List.length_take] at hj
            have := hall.out j (by omega)
            rw [List.getElem_take]
            simpa [show j < xs.length by omega] using this)
          rw [List.length_take] at h1
          simp only [part, List.length_append]
          have : min k xs.length * 20010 ≤ 8000 * 20010 := Nat.mul_le_mul_right _ (by omega)
          omega
        have hc := fun W => refTextW_any (xs.getD k ⟨#[]⟩) W (HS.out _ HX.out)
        have hsz := hbl.size
        clear hcell g1 hao
        generalize xs.getD k ⟨#[]⟩ = x at c1 HX HK HP hc
        by_cases hbig : x.size ≤ 20000
        · have e : textR x = (mk (textB x), 0) := by rw [textR, if_pos hbig]
          rw [e] at hc
          have ht := textB_len x
          have hmk : (mk (textB x)).size = (textB x).length := mk_size _
          clear e
          go_wp2_with (first | (go_at_call 12; refine (hc _).mono ?_; rintro e w2 ⟨rfl, hb2⟩; have hs2 := hb2.size; have hown2 : OwnM w2 w.heap.size _ (part xs k) := ownM_below hown hb2) | (at_builtin; refine wpList_app_marked _ rfl (.tmp 38) (.tmp 39) rfl w.heap.size i0 Try.underlying46 Try.underlying9 hin hz0 hz1 hz2 _ _ rfl hown2 (mk (textB x)) rfl (by rw [hmk]; omega) (by omega) ?_; intro v3 w3 hown3 hg3))
          have R1 : OwnM w3 w.heap.size v3 (part xs (k + 1)) := by rw [HP.out]; rw [mk_toList] at hown3; exact hown3
          have R2 : Below w.heap.size w w3 := (hbl.trans (hb2.mono hsz)).grown hg3 (by omega) (ownM_lt hown2)
          clear hown3 hg3 hown2 hown
          go_roundw
          case rel => exact ⟨k + 1, by omega, by go_num, R1, R2, fun j hj => HK.out j hj hbig⟩
          case measure => simp [intOf]; omega
        · have e : textR x = (⟨#[]⟩, 2) := by rw [textR, if_neg hbig]
          rw [e] at hc
          have HR : Hid (listR xs = (⟨#[]⟩, 2)) := by
            show _ = _
            rw [listR, if_neg (fun h => hbig (h.2 x HX.out))]
          clear HK HX e
          go_wp2_with (go_at_call 12; refine (hc _).mono ?_; rintro e w2 ⟨rfl, hb2⟩)
          go_ret2
          exact ⟨by rw [HR.out]; rfl, hbl.trans (hb2.mono hsz)⟩
      · have hall' : ∀ s ∈ xs, s.size ≤ 20000 := fun s hs => by
          obtain ⟨j, hj, rfl⟩ := List.getElem_of_mem hs
          have := hall.out j (by omega)
          simpa [hj] using this
        have HR : Hid (listR xs = (mk (listB xs), 0)) := by
          show _ = _
          rw [listR, if_pos ⟨hlen, hall'⟩]
        have hq' : k = xs.length := by omega
        subst hq'
        rw [part_all] at hown
        have hc := conv_marked Try.underlying46 Try.underlying5 Try.underlying9 hown
        clear hall' hall hown hao
        go_wp2
        go_ret2
        exact ⟨by rw [HR.out]; rfl, hbl⟩
  · have e : listR xs = (⟨#[]⟩, 2) := by rw [listR, if_neg (fun h => hlen h.1)]
    rw [e]
    clear hao
    go_enter Try.func14, Try.ntmps14
    go_wp2
    go_ret2
    exact ⟨rfl, Below.refl _ _⟩
end Go.Proofs.Ythkkdbcflfhmaab
