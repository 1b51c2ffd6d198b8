/-
  Contracts: pack.Text, pack.List.
-/
import Derived.Test.YthkkdbcflfhmaabSame
import Derived.Lib.AppendStr
namespace Go.Proofs.Ythkkdbcflfhmaab
open Go.ChangeShapes Go.WideShapes Go.ChangeAt Go.RowKit Go.PlainAid

/-- The form of a text. -/
def textB (s : ByteArray) : List UInt8 := numB s.size ++ s.data.toList
/-- The form of a list of texts. -/
def listB (xs : List ByteArray) : List UInt8 := numB xs.length ++ (xs.map textB).flatten

theorem textB_len (s : ByteArray) : (textB s).length ≤ 10 + s.size := by
  have := numB_len (n := s.size)
  have e : s.data.toList.length = s.size := by rw [Array.length_toList]; rfl
  simp only [textB, List.length_append]
  omega

theorem strCells_bv (s : ByteArray) : Lib.strCells s = bv s.data.toList := rfl

theorem own_text {w1 : World} {base e n : Nat} {v' : Value} {L : List UInt8} {s : ByteArray} (h : w1.ownsRow base e 1 v' (n + s.size) (bv L ++ Lib.strCells s)) (hn : L.length = n) :
    w1.ownsRow base e 1 v' (L ++ s.data.toList).length (bv (L ++ s.data.toList)) := by
  subst hn
  rw [strCells_bv] at h
  rw [bv_append, List.length_append]
  have e : s.data.toList.length = s.size := by rw [Array.length_toList]; rfl
  rw [e]
  exact h

theorem below_grown {base : Nat} {w wr w1 : World} {e n : Nat} {v : Value} {xs : List Value} (hb : base ≤ w.heap.size) (hbl : Below base w wr) (hown : wr.ownsRow base e 1 v n xs) (hg : wr.grownBy w1 v.ownBlock) : Below base w w1 :=
  hbl.grown hg (Nat.le_trans hb hbl.size) (fun k hk => (hown.lt k hk).1)

set_option maxHeartbeats 1000000 in
theorem appendText_any (base : Nat) (v : Value) (l : List UInt8) (s : ByteArray) (w : World) (hb : base ≤ w.heap.size) (hs : s.size ≤ 20000) (hl : l.length ≤ 35184372088832)
    (hown : w.ownsRow base 5 1 v l.length (bv l)) :
    Calls Try.prog 28 #[v, .string s] w fun e w' => ∃ v', e = .returned v' ∧ w'.ownsRow base 5 1 v' (l ++ textB s).length (bv (l ++ textB s)) ∧ Below base w w' := by
  obtain ⟨i0, hi, hz0, hz1, hz2⟩ := info_parts Try.info5
  have hc := appendNum_any base v l s.size w hb (by omega) (by omega) hown
  have hn := numB_len (n := s.size)
  go_enter Try.func28, Try.ntmps28
  go_wp2_with (first | (go_at_call 27; refine hc.mono ?_; rintro e w1 ⟨v1, rfl, ho1, hb1⟩; have hsz := hb1.size; have hlen : (l ++ numB s.size).length ≤ 35184372088842 := (by simp; omega)) | (at_builtin; refine Lib.wpList_append_own_string _ rfl (.tmp 8) (.tmp 9) 46 9 rfl base 5 i0 Try.underlying46 Try.underlying9 hi hz0 hz1 hz2 _ _ _ rfl ho1 s rfl (by unfold maxLen; omega) (by omega) (by omega) ?_; intro v2 w2 ho2 hg2 hnil))
  have R1 : w2.ownsRow base 5 1 v2 (l ++ textB s).length (bv (l ++ textB s)) := by
    unfold textB
    rw [← List.append_assoc]
    exact own_text ho2 rfl
  have R2 := below_grown hb hb1 ho1 hg2
  go_ret
  exact ⟨_, rfl, R1, R2⟩

/-- What writing a text gives. -/
def textR (s : ByteArray) : ByteArray × Int := if s.size ≤ 20000 then (mk (textB s), 0) else (⟨#[]⟩, 2)

theorem text_any (s : ByteArray) (w : World) (hs : s.size ≤ maxLen) :
    Calls Try.prog 11 #[.string s] w fun e w' => e = .returned (.tuple #[.string (textR s).1, .int .i64 (textR s).2]) ∧ Below w.heap.size w w' := by
  unfold maxLen at hs
  by_cases h : s.size ≤ 20000
  · have e : textR s = (mk (textB s), 0) := by rw [textR, if_pos h]
    rw [e]
    go_enter Try.func11, Try.ntmps11
    go_wp2_with (go_at_call 28; refine (appendText_any w.heap.size _ [] s _ (Nat.le_refl _) h (by simp) (World.ownsRow_nil _ _ _ _)).mono ?_; rintro e w' ⟨v', rfl, hown, hbl⟩; have hc := conv_own (dst := 9) Try.underlying46 Try.underlying5 Try.underlying9 hown; clear hown)
    go_ret2
    exact ⟨rfl, by assumption⟩
  · have e : textR s = (⟨#[]⟩, 2) := by rw [textR, if_neg h]
    rw [e]
    go_enter Try.func11, Try.ntmps11
    go_wp2
    go_ret2
    exact ⟨rfl, Below.refl _ _⟩

/-- What writing a list gives. -/
def listR (xs : List ByteArray) : ByteArray × Int := if xs.length ≤ 8000 ∧ ∀ s ∈ xs, s.size ≤ 20000 then (mk (listB xs), 0) else (⟨#[]⟩, 2)

theorem flat_len (xs : List ByteArray) (h : ∀ s ∈ xs, s.size ≤ 20000) : ((xs.map textB).flatten).length ≤ xs.length * 20010 := by
  induction xs with
  | nil => simp
  | cons x xs ih =>
    have h1 := ih (fun s hs => h s (List.mem_cons_of_mem _ hs))
    have h2 := textB_len x
    have h3 := h x (List.mem_cons_self ..)
    simp only [List.map_cons, List.flatten_cons, List.length_append, List.length_cons]
    omega

/-- The address of a slice that reads as something. -/
theorem reads_at {w : World} {v : Value} {xs : List ByteArray} (h : Reads w v xs) : ∃ ao cp, v = .slice ao xs.length cp ∧ (0 < xs.length → ∃ b off, ao = some ⟨b, off, none⟩ ∧ ∀ i, i < xs.length → w.cell? ⟨b, off + i, none⟩ = some (.string (xs.getD i ⟨#[]⟩))) := by
  rcases h with ⟨rfl, ao, cp, rfl⟩ | ⟨b, off, cp, rfl, h⟩
  · exact ⟨ao, cp, rfl, fun h => by simp at h⟩
  · exact ⟨_, cp, rfl, fun _ => ⟨b, off, rfl, h⟩⟩

theorem take_snoc (xs : List ByteArray) (k : Nat) (h : k < xs.length) : xs.take (k + 1) = xs.take k ++ [xs.getD k ⟨#[]⟩] := by
  rw [List.take_succ_eq_append_getElem h]; simp [h]

/-- The form so far. -/
def part (xs : List ByteArray) (k : Nat) : List UInt8 := numB xs.length ++ ((xs.take k).map textB).flatten
theorem part_zero (xs : List ByteArray) : part xs 0 = [] ++ numB xs.length := by simp [part]
theorem part_all (xs : List ByteArray) : part xs xs.length = listB xs := by simp [part, listB]
theorem part_succ (xs : List ByteArray) (k : Nat) (h : k < xs.length) : part xs (k + 1) = part xs k ++ textB (xs.getD k ⟨#[]⟩) := by
  unfold part; rw [take_snoc xs k h]; simp
theorem part_len (xs : List ByteArray) (k : Nat) (h : ∀ s ∈ xs, s.size ≤ 20000) : (part xs k).length ≤ 10 + xs.length * 20010 := by
  have h1 := flat_len (xs.take k) (fun s hs => h s (List.mem_of_mem_take hs))
  have h2 := numB_len (n := xs.length)
  have h3 : (xs.take k).length ≤ xs.length := List.length_take_le' ..
  have h4 : (xs.take k).length * 20010 ≤ xs.length * 20010 := Nat.mul_le_mul_right _ h3
  simp only [part, List.length_append]
  omega

set_option maxHeartbeats 2000000 in
theorem list_any (v : Value) (xs : List ByteArray) (w : World) (hm : xs.length ≤ maxLen) (hr : Reads w v xs) :
    Calls Try.prog 13 #[v] w fun e w' => e = .returned (.tuple #[.string (listR xs).1, .int .i64 (listR xs).2]) ∧ Below w.heap.size w w' := by
  unfold maxLen at hm
  obtain ⟨ao, cp, rfl, hao⟩ := reads_at hr
  clear hr
  by_cases hlen : xs.length ≤ 8000
  · have hn := numB_len (n := xs.length)
    go_enter Try.func13, Try.ntmps13
    go_wp2
    go_loop [14] (fun i => ∃ k : Nat, k ≤ xs.length ∧ i = .int .i64 (k : Int) ∧ Hid (∀ j, j < k → (xs.getD j ⟨#[]⟩).size ≤ 20000)) (fun i => xs.length - (intOf i).toNat)
    case atStart => exact ⟨0, by omega, rfl, fun j hj => by omega⟩
    case round =>
      obtain ⟨k, hk, rfl, hall⟩ := hrel
      by_cases hlt : k < xs.length
      · obtain ⟨b, off, rfl, hcell⟩ := hao (by omega)
        have c1 := hcell k hlt
        have HX : Hid (xs.getD k ⟨#[]⟩ ∈ xs) := by
          show _ ∈ _
          simp [hlt]
        have HK : Hid (∀ j, j < k + 1 → (xs.getD k ⟨#[]⟩).size ≤ 20000 → (xs.getD j ⟨#[]⟩).size ≤ 20000) := fun j hj hx => by
          by_cases e : j = k
          · subst e; exact hx
          · exact hall.out j (by omega)
        clear hcell hao
        generalize xs.getD k ⟨#[]⟩ = x at c1 HX HK
        by_cases hbig : x.size ≤ 20000
        · go_wp2
          go_round
          case rel => exact ⟨k + 1, by omega, by go_num, fun j hj => HK.out j hj hbig⟩
          case measure => simp [intOf]; omega
        · have HR : Hid (listR xs = (⟨#[]⟩, 2)) := by
            show _ = _
            rw [listR, if_neg (fun h => hbig (h.2 x HX.out))]
          clear HK HX
          go_wp2
          go_ret2
          exact ⟨by rw [HR.out]; rfl, Below.refl _ _⟩
      · have hall' : ∀ s ∈ xs, s.size ≤ 20000 := fun s hs => by
          obtain ⟨j, hj, rfl⟩ := List.getElem_of_mem hs
          have := hall.out j (by omega)
          simpa [hj] using this
        have HR : Hid (listR xs = (mk (listB xs), 0)) := by
          show _ = _
          rw [listR, if_pos ⟨hlen, hall'⟩]
        have HA : Hid (∀ s ∈ xs, s.size ≤ 20000) := hall'
        clear hall' hall
        go_wp2_with (go_at_call 27; refine (appendNum_any w.heap.size _ [] xs.length _ (Nat.le_refl _) (by omega) (by simp) (World.ownsRow_nil _ _ _ _)).mono ?_; rintro e w1 ⟨v1, rfl, ho1, hb1⟩)
        go_loopw [6, 27] (fun t i wr => ∃ k : Nat, k ≤ xs.length ∧ i = .int .i64 (k : Int) ∧ wr.ownsRow w.heap.size 5 1 t (part xs k).length (bv (part xs k)) ∧ Below w.heap.size w wr) (fun _ i _ => xs.length - (intOf i).toNat)
        case atStart => exact ⟨0, by omega, rfl, by rw [part_zero]; exact ho1, hb1⟩
        case round =>
          obtain ⟨q, hq, rfl, hown, hbl⟩ := hrel
          by_cases hlq : q < xs.length
          · obtain ⟨b, off, rfl, hcell⟩ := hao (by omega)
            have g1 := hcell q hlq
            have c1 := (hbl.cell (World.block_lt_of_cell? w _ g1)).trans g1
            have hx : (xs.getD q ⟨#[]⟩).size ≤ 20000 := HA.out _ (by simp [hlq])
            have HP : Hid (part xs (q + 1) = part xs q ++ textB (xs.getD q ⟨#[]⟩)) := part_succ xs q hlq
            have hpl := part_len xs q HA.out
            have hc := appendText_any w.heap.size _ (part xs q) (xs.getD q ⟨#[]⟩) wr hbl.size hx (by omega) hown
            clear hcell g1 hown hao
            generalize xs.getD q ⟨#[]⟩ = x at c1 hx HP hc
            go_wp2_with (go_at_call 28; refine hc.mono ?_; rintro e w2 ⟨v2, rfl, ho2, hb2⟩)
            go_roundw
            case rel => exact ⟨q + 1, by omega, by go_num, by rw [HP.out]; exact ho2, hbl.trans hb2⟩
            case measure => simp [intOf]; omega
          · have hq' : q = xs.length := by omega
            subst hq'
            rw [part_all] at hown
            have hc := conv_own (dst := 9) Try.underlying46 Try.underlying5 Try.underlying9 hown
            clear hown hao
            go_wp2
            go_ret2
            exact ⟨by rw [HR.out]; rfl, hbl⟩
  · have e : listR xs = (⟨#[]⟩, 2) := by rw [listR, if_neg (fun h => hlen h.1)]
    rw [e]
    clear hao
    go_enter Try.func13, Try.ntmps13
    go_wp2
    go_ret2
    exact ⟨rfl, Below.refl _ _⟩
end Go.Proofs.Ythkkdbcflfhmaab
