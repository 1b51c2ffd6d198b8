/-
  Contracts: the reading of lists of texts.
-/
import Derived.Test.YthkkdbcflfhmaabWords
namespace Go.Proofs.Ythkkdbcflfhmaab
open Go.ChangeShapes Go.WideShapes Go.ChangeAt Go.RowKit Go.PlainAid

theorem Try.info9 : (Try.prog.info? 9).map (fun i => (i.zero, i.size, i.bytes)) = some (some (.string ⟨#[]⟩), 1, 16) := by kernel_rfl

/-- Texts as the cells of a row. -/
def sv (l : List ByteArray) : List Value := l.map Value.string
theorem sv_length (l : List ByteArray) : (sv l).length = l.length := by simp [sv]
theorem sv_append (a b : List ByteArray) : sv (a ++ b) = sv a ++ sv b := by simp [sv]
theorem own_snocS {w1 : World} {base e n : Nat} {v' : Value} {L : List ByteArray} {b : ByteArray} (h : w1.ownsRow base e 1 v' (n + 1) (sv L ++ [.string b])) (hn : L.length = n) :
    w1.ownsRow base e 1 v' (L ++ [b]).length (sv (L ++ [b])) := by
  subst hn
  rw [sv_append]
  simpa [sv] using h

/-- What owns something is a slice that begins at the head of a row. -/
theorem own_some {w1 : World} {base e n : Nat} {v' : Value} {L : List Value} (h : w1.ownsRow base e 1 v' (n + 1) L) : ∃ g cp, v' = .slice (some ⟨g, 0, none⟩) (n + 1) cp := by
  rcases h.2 with ⟨_, h0⟩ | ⟨g, cap, cur, rfl, _⟩
  · omega
  · exact ⟨g, cap, rfl⟩

/-- What the function that is handed on has: the text, and the list so far. -/
def Inv (s : ByteArray) (Bs Bl : Nat) (xs : List ByteArray) (v : Value) (w : World) : Prop :=
  w.heap[Bs]? = some (.cells #[.string s] 9 (0, 0)) ∧ w.heap[Bl]? = some (.cells #[v] 22 (0, 0)) ∧ w.ownsRow (Bl + 1) 9 1 v xs.length (sv xs) ∧ Bs < Bl ∧ Bl < w.heap.size

theorem inv_step {s : ByteArray} {Bs Bl : Nat} {xs : List ByteArray} {v v' : Value} {w wr w1 : World} {b : ByteArray} {o : Obj} (hi : Inv s Bs Bl xs v wr)
    (h1 : w1.ownsRow (Bl + 1) 9 1 v' (xs.length + 1) (sv xs ++ [.string b])) (hg : (wr.alloc o).grownBy w1 v.ownBlock) (hb : Below Bl w wr) :
    Inv s Bs Bl (xs ++ [b]) v' (w1.setCell ⟨Bl, 0, none⟩ v') ∧ Below Bl w (w1.setCell ⟨Bl, 0, none⟩ v') := by
  obtain ⟨h2, h3, h4, h5, h6⟩ := hi
  have hne : ∀ k, k ≤ Bl → some k ≠ v.ownBlock := fun k hk e => by have := (h4.lt k e.symm).1; omega
  have g1 : ∀ k, k ≤ Bl → w1.heap[k]? = wr.heap[k]? := fun k hk => by
    rw [hg.block k (by simp; omega) (hne k hk)]
    exact heap_alloc_old wr o (by omega)
  have hsz := hg.size
  simp at hsz
  refine ⟨⟨?_, ?_, ownsRow_setCell_below (own_snocS h1 rfl) (by simp) _, h5, ?_⟩, ?_⟩
  · rw [Below.heap_setCell _ _ _ _ (by simp; omega), g1 Bs (by omega)]; exact h2
  · exact one_setCell (w := w1) (b := Bl) (v := v) (t := 22) (by rw [g1 Bl (by omega)]; exact h3)
  · simp [World.setCell]; omega
  · refine hb.trans ⟨?_, ?_, ?_, ?_, ?_⟩
    · exact hg.os
    · exact hg.tape
    · exact hg.output
    · simp [World.setCell]; omega
    · intro k hk
      rw [Below.heap_setCell _ _ _ _ (by simp; omega), g1 k (by omega)]

theorem inv_list {s : ByteArray} {Bs Bl : Nat} {xs : List ByteArray} {v : Value} {wr w1 : World} {o : Obj} (hi : Inv s Bs Bl xs v wr) (hg : (wr.alloc o).grownBy w1 v.ownBlock) :
    w1.heap[Bl]? = some (.cells #[v] 22 (0, 0)) := by
  obtain ⟨h2, h3, h4, h5, h6⟩ := hi
  rw [hg.block Bl (by simp; omega) (fun e => by have := (h4.lt Bl e.symm).1; omega), ← h3]
  exact Below.heap_alloc wr o Bl h6

theorem inv_below {s : ByteArray} {Bs Bl : Nat} {xs : List ByteArray} {v : Value} {w w' : World} (hi : Inv s Bs Bl xs v w) (hb : Below w.heap.size w w') : Inv s Bs Bl xs v w' := by
  obtain ⟨h2, h3, h4, h5, h6⟩ := hi
  refine ⟨by rw [hb.block _ (by omega)]; exact h2, by rw [hb.block _ h6]; exact h3, ?_, h5, Nat.lt_of_lt_of_le h6 hb.size⟩
  exact h4.kept (row := none) ⟨hb.os, hb.tape, hb.output, hb.size, fun k hk _ => hb.block k hk⟩ (by cases v.ownBlock <;> simp)

set_option maxHeartbeats 1000000 in
theorem clos_any (s : ByteArray) (Bs Bl : Nat) (xs : List ByteArray) (v : Value) (a : Int) (w : World) (hs : s.size ≤ maxLen) (hi : Inv s Bs Bl xs v w) (hx : xs.length ≤ 8000) :
    Calls Try.prog 32 #[.int .i64 a, .pointer (some ⟨Bs, 0, none⟩), .pointer (some ⟨Bl, 0, none⟩)] w fun e w' =>
      e = .returned (.tuple #[.int .i64 (tkT s a).2.1, .int .i64 (tkT s a).2.2]) ∧ (∃ v', Inv s Bs Bl (xs ++ [(tkT s a).1]) v' w') ∧ Below Bl w w' := by
  obtain ⟨i0, hin, hz0, hz1, hz2⟩ := info_parts Try.info9
  have hc := takeText_any s a w hs
  have c1 := cell_of_one hi.1
  go_enter Try.func32, Try.ntmps32
  go_wp2_with (first | (go_at_call 21; refine hc.mono ?_; rintro e w' ⟨rfl, hb⟩; have hi' := inv_below hi hb; have c2 := cell_of_one hi'.2.1; have hsz := hi'.2.2.2.2; clear hc c1) | (at_builtin; refine wpList_append_own _ rfl (.tmp 16) (.tmp 18) 22 rfl (Bl + 1) 9 i0 (.string ⟨#[]⟩) 1 16 Try.underlying22 hin hz0 hz1 hz2 rfl (by decide) _ _ _ rfl (hi'.2.2.1.alloc _) ⟨w'.heap.size, 0, none⟩ 1 1 [.string (tkT s a).1] rfl rfl (one_new _ _ _) (one_one _ rfl) (by unfold maxLen; omega) (by omega) (by simp; omega) ?_; intro v' w1 hown1 hgrow hnil; obtain ⟨g, cp, rfl⟩ := own_some hown1; have c3 := cell_of_one (inv_list hi' hgrow); have c4 := free_of_one (inv_list hi' hgrow)))
  have R := inv_step hi' hown1 hgrow (hb.mono (Nat.le_of_lt hi.2.2.2.2))
  go_ret2
  exact ⟨rfl, ⟨_, R.1⟩, R.2⟩

/-- What reading so many texts more gives. -/
def tkLgo (s : ByteArray) : Nat → Int → List ByteArray → List ByteArray × Int × Int
  | 0, a, acc => (acc, a, 0)
  | n + 1, a, acc => if (tkT s a).2.2 = 0 then tkLgo s n (tkT s a).2.1 (acc ++ [(tkT s a).1]) else ([], 0, (tkT s a).2.2)
/-- What reading a list gives. -/
def tkL (s : ByteArray) (a : Int) : List ByteArray × Int × Int :=
  if (tk s a 8000).2.2 = 0 then tkLgo s (tk s a 8000).1.toNat (tk s a 8000).2.1 [] else ([], 0, (tk s a 8000).2.2)

theorem own_mono {w : World} {b b' e n : Nat} {v : Value} {L : List Value} (h : w.ownsRow b e 1 v n L) (hb : b' ≤ b) : w.ownsRow b' e 1 v n L := by
  refine ⟨h.1, ?_⟩
  rcases h.2 with h0 | ⟨g, cap, cur, h1, h2, h3⟩
  · exact .inl h0
  · exact .inr ⟨g, cap, cur, h1, Nat.le_trans hb h2, h3⟩

set_option maxHeartbeats 2000000 in
theorem each_any (s : ByteArray) (Bs Bl : Nat) (a : Int) (w : World) (hs : s.size ≤ maxLen) (hi : Inv s Bs Bl [] (.slice none 0 0) w) :
    Calls Try.prog 31 #[.string s, .int .i64 a, .func (.func 32) #[] #[.pointer (some ⟨Bs, 0, none⟩), .pointer (some ⟨Bl, 0, none⟩)]] w fun e w' =>
      e = .returned (.tuple #[.int .i64 (tkL s a).2.1, .int .i64 (tkL s a).2.2]) ∧ ((tkL s a).2.2 = 0 → ∃ v', Inv s Bs Bl (tkL s a).1 v' w') ∧ Below Bl w w' := by
  have hc := upTo_any s a 8000 w hs
  rcases tk_cases s a 8000 with ⟨n, p, hr, hn, hap, hp, ha⟩ | ⟨er, hr, her⟩
  · have e : tkL s a = tkLgo s n p [] := by unfold tkL; rw [hr]; rfl
    rw [hr] at hc
    simp only at hc
    rw [e]
    clear hr e
    have hn' : n ≤ 8000 := by omega
    go_enter Try.func31, Try.ntmps31
    go_wp2_with (go_at_call 29; refine hc.mono ?_; rintro e w' ⟨rfl, rfl⟩)
    go_loopw [1, 21] (fun t i wr => ∃ (k : Nat) (A : Int) (xs : List ByteArray) (v : Value), k ≤ n ∧ xs.length = k ∧ t = .int .i64 A ∧ i = .int .i64 (k : Int) ∧ Inv s Bs Bl xs v wr ∧ Below Bl w wr ∧ Hid (tkLgo s n p [] = tkLgo s (n - k) A xs))
      (fun _ i _ => n - (intOf i).toNat)
    case atStart => exact ⟨0, p, [], _, by omega, rfl, rfl, rfl, hi, Below.refl _ _, rfl⟩
    case round =>
      obtain ⟨k, A, xs, v, hk, hxs, rfl, rfl, hinv, hbl, HT⟩ := hrel
      by_cases hlt : k < n
      · have hf : n - k = (n - (k + 1)) + 1 := by omega
        rw [hf] at HT
        by_cases hz : (tkT s A).2.2 = 0
        · have HR : Hid (tkLgo s n p [] = tkLgo s (n - (k + 1)) (tkT s A).2.1 (xs ++ [(tkT s A).1])) := by
            show _ = _
            rw [HT.out, tkLgo, if_pos hz]
          have hcl := clos_any s Bs Bl xs v A wr hs hinv (by omega)
          rw [hz] at hcl
          clear HT hz hc hinv
          go_wp2_with (go_at_call 32; refine hcl.mono ?_; rintro e w1 ⟨rfl, ⟨v', hi1⟩, hb1⟩)
          go_roundw
          case rel => exact ⟨k + 1, _, _, _, by omega, by simp; omega, rfl, by go_num, hi1, hbl.trans hb1, HR⟩
          case measure => simp [intOf]; omega
        · have HR : Hid (tkLgo s n p [] = ([], 0, (tkT s A).2.2)) := by
            show _ = _
            rw [HT.out, tkLgo, if_neg hz]
          have hz' : ((tkT s A).2.2 != 0) = true := by simpa using hz
          have hcl := clos_any s Bs Bl xs v A wr hs hinv (by omega)
          clear HT hc hinv
          go_wp2_with (go_at_call 32; refine hcl.mono ?_; rintro e w1 ⟨rfl, _, hb1⟩)
          go_ret2
          exact ⟨by rw [HR.out]; rfl, fun h0 => absurd (by rw [HR.out] at h0; exact h0) hz, hbl.trans hb1⟩
      · have hkn : n - k = 0 := by omega
        rw [hkn] at HT
        clear hc
        go_wp2
        go_ret2
        exact ⟨by rw [HT.out]; rfl, fun _ => ⟨v, by rw [HT.out]; exact hinv⟩, hbl⟩
  · have e : tkL s a = ([], 0, er) := by unfold tkL; rw [hr]; simp only; rw [if_neg (by omega)]
    rw [hr] at hc
    simp only at hc
    rw [e]
    clear hr
    have hne : (er != 0) = true := by simp; omega
    go_enter Try.func31, Try.ntmps31
    go_wp2_with (go_at_call 29; refine hc.mono ?_; rintro e w' ⟨rfl, rfl⟩)
    go_ret2
    exact ⟨rfl, fun h => by have h' : er = 0 := h; omega, Below.refl _ _⟩

theorem tkLgo_err (s : ByteArray) : ∀ (n : Nat) (a : Int) (acc : List ByteArray), (tkLgo s n a acc).2.2 ≠ 0 → (tkLgo s n a acc).1 = [] ∧ (tkLgo s n a acc).2.1 = 0
  | 0, a, acc, h => by simp [tkLgo] at h
  | n + 1, a, acc, h => by
    rw [tkLgo] at h ⊢
    split at h
    · rename_i hz
      rw [if_pos hz]
      exact tkLgo_err s n _ _ h
    · rename_i hz
      rw [if_neg hz]
      exact ⟨rfl, rfl⟩
theorem tkL_err (s : ByteArray) (a : Int) (h : (tkL s a).2.2 ≠ 0) : (tkL s a).1 = [] ∧ (tkL s a).2.1 = 0 := by
  unfold tkL at h ⊢
  split at h
  · rename_i hz
    rw [if_pos hz]
    exact tkLgo_err s _ _ _ h
  · rename_i hz
    rw [if_neg hz]
    exact ⟨rfl, rfl⟩

set_option maxHeartbeats 1000000 in
theorem takeList_any (s : ByteArray) (a : Int) (w : World) (hs : s.size ≤ maxLen) :
    Calls Try.prog 26 #[.string s, .int .i64 a] w fun e w' => ∃ v, e = .returned (.tuple #[v, .int .i64 (tkL s a).2.1, .int .i64 (tkL s a).2.2]) ∧ w'.ownsRow w.heap.size 9 1 v (tkL s a).1.length (sv (tkL s a).1) ∧ Below w.heap.size w w' := by
  have hinv : Inv s w.heap.size (w.heap.size + 1) [] (.slice none 0 0) ((w.alloc (Obj.cells #[Value.string s] 9)).alloc (Obj.cells #[Value.slice none 0 0] 22)) := by
    refine ⟨?_, ?_, World.ownsRow_nil _ _ _ _, by omega, by simp⟩
    · rw [Below.heap_alloc _ _ _ (by simp)]; exact heap_alloc_new w _
    · have := heap_alloc_new (w.alloc (Obj.cells #[Value.string s] 9)) (Obj.cells #[Value.slice none 0 0] 22)
      simpa using this
  have hb0 : Below w.heap.size w ((w.alloc (Obj.cells #[Value.string s] 9)).alloc (Obj.cells #[Value.slice none 0 0] 22)) := ((Below.refl _ _).alloc (Nat.le_refl _) _).alloc (by simp) _
  have hc := each_any s _ _ a _ hs hinv
  clear hinv
  by_cases hz : (tkL s a).2.2 = 0
  · rw [hz] at hc ⊢
    clear hz
    go_enter Try.func26, Try.ntmps26
    go_wp2_with (go_at_call 31; refine hc.mono ?_; rintro e w1 ⟨rfl, h1, hb1⟩; obtain ⟨v, h2⟩ := h1 rfl; have c2 := cell_of_one h2.2.1; clear h1 hc)
    go_ret3
    exact ⟨v, rfl, own_mono h2.2.2.1 (by omega), hb0.trans (hb1.mono (by omega))⟩
  · obtain ⟨e1, e2⟩ := tkL_err s a hz
    rw [e2] at hc ⊢
    rw [e1]
    have hz' : ((tkL s a).2.2 != 0) = true := by simpa using hz
    go_enter Try.func26, Try.ntmps26
    go_wp2_with (go_at_call 31; refine hc.mono ?_; rintro e w1 ⟨rfl, h1, hb1⟩; clear h1 hc)
    go_ret3
    exact ⟨_, rfl, World.ownsRow_nil _ _ _ _, hb0.trans (hb1.mono (by omega))⟩
end Go.Proofs.Ythkkdbcflfhmaab
