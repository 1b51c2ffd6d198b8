/-
  redo, Open.
-/
import Derived.Test.YtblhmfkohbdmeaaWalM
namespace Go.Proofs.Ytblhmfkohbdmeaa
open Go.RowKit Go.Maps

theorem getD_lt (l : List Nat) (k : Nat) (h : k < l.length) : l.getD k 0 = l[k] := by simp [List.getD, h]

theorem slotF_none {s : DevS} {N : Nat} {l : List Nat} {i : Nat} (h : i ∉ l) : ∀ k, k ≤ l.length → slotF s N l k i = none
  | 0, _ => rfl
  | k + 1, hk => by
    rw [slotF, putF]
    have hm : l.getD k 0 ∈ l := by
      have : k < l.length := by omega
      rw [getD_lt _ _ this]
      exact List.getElem_mem this
    rw [if_neg (fun (e : i = l.getD k 0) => h (by rw [e]; exact hm))]
    exact slotF_none h k (by omega)

theorem slotF_at {s : DevS} {N : Nat} {l : List Nat} (hn : l.Pairwise (· < ·)) {j : Nat} (hj : j < l.length) : ∀ k, j < k → k ≤ l.length → slotF s N l k l[j] = some (s.readAt (N + 1 + j))
  | 0, h, _ => by omega
  | k + 1, h, hk => by
    rw [slotF, putF]
    have hkl : k < l.length := by omega
    rw [getD_lt _ _ hkl]
    by_cases e : j = k
    · subst e
      rw [if_pos rfl]
    · have hlt : l[j] < l[k] := List.pairwise_iff_getElem.1 hn j k hj hkl (by omega)
      rw [if_neg (by omega)]
      exact slotF_at hn hj k (by omega) (by omega)

theorem slotF_some {s : DevS} {N : Nat} {l : List Nat} (hn : l.Pairwise (· < ·)) (i : Nat) : (slotF s N l l.length i).isSome = true ↔ i ∈ l := by
  constructor
  · intro h
    by_cases hi : i ∈ l
    · exact hi
    · rw [slotF_none hi _ (Nat.le_refl _)] at h
      cases h
  · intro h
    obtain ⟨j, hj, rfl⟩ := List.getElem_of_mem h
    rw [slotF_at hn hj _ hj (Nat.le_refl _)]
    rfl

theorem slotF_full {w : World} {p bs bw : Nat} {s : DevS} (h : IsDev w p bs bw s) (N : Nat) (l : List Nat) : ∀ k, Full (slotF s N l k)
  | 0 => full_none
  | k + 1 => full_put (slotF_full h N l k) _ (h.readLen _)

theorem slotF_keys {s : DevS} {N : Nat} {l : List Nat} (hn : l.Pairwise (· < ·)) (hlN : ∀ x ∈ l, x < N) : keysF N (slotF s N l l.length) = [] ↔ l = [] := by
  constructor
  · intro h
    cases l with
    | nil => rfl
    | cons a l =>
      have : a ∈ keysF N (slotF s N (a :: l) (a :: l).length) := mem_keysF.2 ⟨hlN a (by simp), (slotF_some hn a).2 (by simp)⟩
      rw [h] at this
      cases this
  · rintro rfl
    exact keysF_none N

/-- What redo does where the heading names l. -/
def openD (s : DevS) (N : Nat) (l : List Nat) : Int × DevS := if l = [] then (0, s) else homeD s (slotF s N l l.length) N

section
variable {w : World} {r p bs bw : Nat} {age : Int} {lost : Bool} {s : DevS} {N : Nat}

set_option maxHeartbeats 1000000 in
theorem redo_no (hw : IsWal w r p age lost) (hd : IsDev w p bs bw s) (hN : s.n = N + 25) (hu : s.up = true) (h24 : 24 < ((s.readAt N).getD 0 0).toNat) :
    Calls Try.prog 45 #[.pointer (some ⟨r, 0, none⟩)] w fun e w' => e = .returned (.int .i64 40) ∧ Below w.heap.size w w' := by
  have c := logged_no hw hd hN hu h24
  clear hw hd hN hu h24
  go_enter Try.func45, Try.ntmps45
  go_wp2_with (first | (go_at_call 62; refine c.mono ?_; rintro e w1 ⟨rfl, hb1⟩))
  go_ret
  exact ⟨rfl, hb1⟩

set_option maxHeartbeats 2000000 in
theorem redo_ok (hw : IsWal w r p age lost) (hd : IsDev w p bs bw s) (hN : s.n = N + 25) (hu : s.up = true) (hkz : s.keys = []) (l : List Nat) (hl : l.length ≤ 24) (hlN : ∀ x ∈ l, x < N) (hri : l.Pairwise (· < ·)) (hhd : s.readAt N = hdL l l.length) :
    Calls Try.prog 45 #[.pointer (some ⟨r, 0, none⟩)] w fun e w' => e = .returned (.int .i64 (openD s N l).1) ∧ IsDev w' p bs bw (openD s N l).2 ∧ Only [p, bs, bw] w w' := by
  have c := logged_ok hw hd hN hu l hl hlN hri hhd
  have hN8 : N ≤ 8192 := by have := hd.hi; omega
  have hfull := slotF_full hd N l l.length
  have cW : ∀ W, IsDev W p bs bw s → _ := fun W h => waiting_any h
  rw [hkz] at cW
  have cB : ∀ W b, IsWal W r p age lost → IsDev W p bs bw s → W.ownsMap Try.prog 3 secR b N (DF N (slotF s N l l.length)) → b ∉ [p, bs, bw] → _ := fun W b h1 h2 h3 h4 => bringHome_any h1 h2 h3 hfull hN8 h4
  have hsk : Maps.size (DF N (slotF s N l l.length)) = (keysF N (slotF s N l l.length)).length := size_keys _ _
  have lp := hd.ltp
  have ls := hd.lts
  have lw := hd.ltw
  by_cases hnil : l = []
  · have HD : Hid (openD s N l = (0, s)) := by show openD s N l = _; unfold openD; rw [if_pos hnil]
    rw [(slotF_keys hri hlN).2 hnil] at hsk
    rw [HD.out]
    clear HD hnil hfull cB
    generalize slotF s N l l.length = f at *
    go_enter Try.func45, Try.ntmps45
    go_wp2_with (first
      | (go_at_call 62; refine c.mono ?_; rintro e w1 ⟨b, rfl, hM1, hbb, hb1⟩; have hW1 := hw.below hb1; have hD1 := hd.below hb1; obtain ⟨d1, d2, d3⟩ := hW1.cells)
      | (go_at_call 17; refine (cW _ hD1).mono ?_; rintro e w2 ⟨v, rfl, hrow, _, hb2⟩; obtain ⟨ao, cp, rfl, _⟩ := own_shape hrow; have hM2 := ownsMap_only hM1 (Only.of_below (S := []) hb2) (by simp))
      | (at_len; refine wpList_len_own _ rfl _ 91 rfl 3 97 Try.underlying91 secR b N (DF N f) rfl hM2 ?_; rw [hsk]; go_frame))
    go_ret
    exact ⟨rfl, hD1.below hb2, (Only.of_below hb1).trans (Only.of_below hb2)⟩
  · have HD : Hid (openD s N l = homeD s (slotF s N l l.length) N) := by show openD s N l = _; unfold openD; rw [if_neg hnil]
    have hpos : ((Maps.size (DF N (slotF s N l l.length)) : Int) == 0) = false := by
      rw [hsk]
      have : (keysF N (slotF s N l l.length)).length ≠ 0 := fun h => hnil ((slotF_keys hri hlN).1 (List.eq_nil_of_length_eq_zero h))
      rw [beq_eq_false_iff_ne]
      omega
    rw [HD.out]
    clear HD hnil hfull hsk
    generalize (homeD s (slotF s N l l.length) N).1 = er at *
    generalize (homeD s (slotF s N l l.length) N).2 = s' at *
    generalize slotF s N l l.length = f at *
    go_enter Try.func45, Try.ntmps45
    go_wp2_with (first
      | (go_at_call 62; refine c.mono ?_; rintro e w1 ⟨b, rfl, hM1, hbb, hb1⟩; have hW1 := hw.below hb1; have hD1 := hd.below hb1; obtain ⟨d1, d2, d3⟩ := hW1.cells; have hnb : b ∉ [p, bs, bw] := by (simp; omega))
      | (go_at_call 17; refine (cW _ hD1).mono ?_; rintro e w2 ⟨v, rfl, hrow, _, hb2⟩; obtain ⟨ao, cp, rfl, _⟩ := own_shape hrow; have hM2 := ownsMap_only hM1 (Only.of_below (S := []) hb2) (by simp))
      | (at_len; refine wpList_len_own _ rfl _ 91 rfl 3 97 Try.underlying91 secR b N (DF N f) rfl hM2 ?_; go_frame)
      | (go_at_call 55; refine (cB _ _ (hW1.below hb2) (hD1.below hb2) hM2 hnb).mono ?_; rintro e w3 ⟨rfl, hd3, ho3⟩))
    go_ret
    exact ⟨rfl, hd3, ((Only.of_below hb1).trans (Only.of_below hb2)).trans ho3⟩
end

set_option maxHeartbeats 400000 in
theorem open_nil (w : World) : Calls Try.prog 20 #[.pointer none] w fun e w' => e = .returned (.tuple #[.pointer none, .int .i64 1]) ∧ w' = w := by
  have cF := fit_nil (w := w)
  go_enter Try.func20, Try.ntmps20
  go_wp2_with (first | (go_at_call 37; refine cF.mono ?_; rintro e w' ⟨rfl, hw⟩; rw [hw]; clear hw w'))
  go_ret2
  exact ⟨rfl, rfl⟩

theorem fitE_up {s : DevS} (h : fitE s = 0) : s.up = true ∧ 32 ≤ s.n := by
  unfold fitE at h
  cases hu : s.up with
  | false => rw [hu, if_pos rfl] at h; omega
  | true =>
    rw [hu, if_neg (by simp)] at h
    refine ⟨rfl, ?_⟩
    split at h <;> omega

section
variable {w : World} {p bs bw : Nat} {s : DevS} {N : Nat}

set_option maxHeartbeats 400000 in
theorem open_fit (h : IsDev w p bs bw s) (he : fitE s ≠ 0) :
    Calls Try.prog 20 #[.pointer (some ⟨p, 0, none⟩)] w fun e w' => e = .returned (.tuple #[.pointer none, .int .i64 (fitE s)]) ∧ w' = w := by
  have cF := fit_any h
  have hb : (fitE s != 0) = true := by simpa using he
  clear he h
  generalize fitE s = f at *
  go_enter Try.func20, Try.ntmps20
  go_wp2_with (first | (go_at_call 37; refine cF.mono ?_; rintro e w' ⟨rfl, hw⟩; rw [hw]; clear hw w'))
  go_ret2
  exact ⟨rfl, rfl⟩

set_option maxHeartbeats 1000000 in
theorem open_form (h : IsDev w p bs bw s) (he : fitE s = 0) (hN : s.n = N + 25) (h24 : 24 < ((s.readAt N).getD 0 0).toNat) :
    Calls Try.prog 20 #[.pointer (some ⟨p, 0, none⟩)] w fun e w' => e = .returned (.tuple #[.pointer none, .int .i64 40]) ∧ Below w.heap.size w w' := by
  have cF := fit_any h
  have cA := age_any h
  have hu := (fitE_up he).1
  rw [he] at cF
  have hA : Below w.heap.size w (w.alloc (.cells #[.pointer (some ⟨p, 0, none⟩), .int .i64 s.age, .bool false] 80)) := (Below.refl _ _).alloc (Nat.le_refl _) _
  have cR := redo_no (r := w.heap.size) (p := p) (age := s.age) (lost := false) (heap_alloc_last w _) (h.below hA) hN hu h24
  clear h he hu hN h24
  go_enter Try.func20, Try.ntmps20
  go_wp2_with (first
    | (go_at_call 37; refine cF.mono ?_; rintro e w' ⟨rfl, hw⟩; rw [hw]; clear hw w')
    | (go_at_call 39; refine cA.mono ?_; rintro e w' ⟨rfl, hw⟩; rw [hw]; clear hw w')
    | (go_at_call 45; refine cR.mono ?_; rintro e w2 ⟨rfl, hb2⟩))
  go_ret2
  exact ⟨rfl, hA.trans (hb2.mono hA.size)⟩

set_option maxHeartbeats 2000000 in
/-- Open where the heading names l. -/
theorem open_go (h : IsDev w p bs bw s) (he : fitE s = 0) (hN : s.n = N + 25) (hkz : s.keys = []) (l : List Nat) (hl : l.length ≤ 24) (hlN : ∀ x ∈ l, x < N) (hri : l.Pairwise (· < ·)) (hhd : s.readAt N = hdL l l.length) :
    Calls Try.prog 20 #[.pointer (some ⟨p, 0, none⟩)] w fun e w' => (((openD s N l).1 ≠ 0 ∧ e = .returned (.tuple #[.pointer none, .int .i64 (openD s N l).1])) ∨ ((openD s N l).1 = 0 ∧ ∃ r, e = .returned (.tuple #[.pointer (some ⟨r, 0, none⟩), .int .i64 0]) ∧ IsWal w' r p s.age false ∧ w.heap.size ≤ r)) ∧ IsDev w' p bs bw (openD s N l).2 ∧ Only [p, bs, bw] w w' := by
  have cF := fit_any h
  have cA := age_any h
  have hu := (fitE_up he).1
  rw [he] at cF
  have hA : Below w.heap.size w (w.alloc (.cells #[.pointer (some ⟨p, 0, none⟩), .int .i64 s.age, .bool false] 80)) := (Below.refl _ _).alloc (Nat.le_refl _) _
  have hwl : IsWal (w.alloc (.cells #[.pointer (some ⟨p, 0, none⟩), .int .i64 s.age, .bool false] 80)) w.heap.size p s.age false := heap_alloc_last w _
  have hap := hwl.apart (h.below hA)
  have cR := redo_ok hwl (h.below hA) hN hu hkz l hl hlN hri hhd
  have HW : Hid (IsWal (w.alloc (.cells #[.pointer (some ⟨p, 0, none⟩), .int .i64 s.age, .bool false] 80)) w.heap.size p s.age false) := hwl
  have hO : Only [p, bs, bw] w (w.alloc (.cells #[.pointer (some ⟨p, 0, none⟩), .int .i64 s.age, .bool false] 80)) := Only.alloc _ _ _
  clear h he hu hN hl hlN hri hhd hkz hwl hA
  generalize (openD s N l).1 = er at *
  generalize (openD s N l).2 = s' at *
  by_cases her : er = 0
  · have hb : (er != 0) = false := by simpa using her
    have HE : Hid (er = 0) := her
    clear her
    go_enter Try.func20, Try.ntmps20
    go_wp2_with (first
      | (go_at_call 37; refine cF.mono ?_; rintro e w' ⟨rfl, hw⟩; rw [hw]; clear hw w')
      | (go_at_call 39; refine cA.mono ?_; rintro e w' ⟨rfl, hw⟩; rw [hw]; clear hw w')
      | (go_at_call 45; refine cR.mono ?_; rintro e w2 ⟨rfl, hd2, ho2⟩))
    go_ret2
    exact ⟨.inr ⟨HE.out, _, rfl, HW.out.kept ho2 hap, Nat.le_refl _⟩, hd2, hO.trans ho2⟩
  · have hb : (er != 0) = true := by simpa using her
    have HE : Hid (er ≠ 0) := her
    clear her
    go_enter Try.func20, Try.ntmps20
    go_wp2_with (first
      | (go_at_call 37; refine cF.mono ?_; rintro e w' ⟨rfl, hw⟩; rw [hw]; clear hw w')
      | (go_at_call 39; refine cA.mono ?_; rintro e w' ⟨rfl, hw⟩; rw [hw]; clear hw w')
      | (go_at_call 45; refine cR.mono ?_; rintro e w2 ⟨rfl, hd2, ho2⟩))
    go_ret2
    exact ⟨.inl ⟨HE.out, rfl⟩, hd2, hO.trans ho2⟩
end
end Go.Proofs.Ytblhmfkohbdmeaa
