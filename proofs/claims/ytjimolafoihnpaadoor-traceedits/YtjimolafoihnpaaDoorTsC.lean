/-
  The answers that live asks for, as data.
-/
import Derived.Test.YtjimolafoihnpaaDoorTsA
namespace Go.Proofs.YtjimolafoihnpaaDoor.tc
open Go.Maps Go.ChangeShapes Go.WideShapes Go.ChangeAt Go.RowKit Go.PlainAid

def bA : ByteArray := ⟨#[97, 98]⟩
def bB : ByteArray := ⟨#[98, 99]⟩
def bC : ByteArray := ⟨#[99, 97]⟩
def bX : ByteArray := ⟨#[97, 120, 98]⟩
def bY : ByteArray := ⟨#[99]⟩
def bZ : ByteArray := ⟨#[98, 97]⟩
def l1 : List (List RunD) := [wdR bY, wdR bA, wdR bZ]
def l2 : List (List RunD) := [wdR bA, wdR bB, wdR bC]
def l3 : List (List RunD) := [wdR bA, wdR bX]
theorem aT_bA : aT (wdR bA) = [⟨0, 97, 0, 97⟩, ⟨0, 98, 0, 98⟩] := by kernel_rfl
theorem dcs1 : dcs l1 = [[(0, 99)], [(1, 97), (2, 98)], [(2, 98), (1, 97)]] := by kernel_rfl
theorem dcs2 : dcs l2 = [[(0, 97), (1, 98)], [(1, 98), (2, 99)], [(2, 99), (0, 97)]] := by kernel_rfl
theorem dcs3 : dcs l3 = [[(0, 97), (1, 98)], [(0, 97), (2, 120), (1, 98)]] := by kernel_rfl
theorem nm2 : nmA (aTs l2) = [(0, 97, 0), (0, 98, 0), (0, 99, 0)] := by kernel_rfl
theorem nm3 : nmA (aTs l3) = [(0, 97, 0), (0, 98, 0), (0, 120, 0)] := by kernel_rfl
theorem row2 : (rowM (dcs l2) (tabH (hvD (dcs l2)) (nmA (aTs l2)).length) (nmA (aTs l2)).length 1).map (fun s => s.row) = some [] := by
  rw [dcs2, nm2]
  kernel_rfl
theorem row3 : (rowM (dcs l3) (tabH (hvD (dcs l3)) (nmA (aTs l3)).length) (nmA (aTs l3)).length 1).map (fun s => s.row) = some [0, 2, 1] := by
  rw [dcs3, nm3]
  kernel_rfl
theorem ord2 : ordO (dcs l2) (nmA (aTs l2)) [] = none := by
  rw [dcs2, nm2]
  kernel_rfl
def tx3 (l : List RunD) : ByteArray := l.foldl (fun s r => s ++ r.t) ⟨#[]⟩
def R3 : List RunD := [⟨0, 97, 0, ⟨#[97]⟩⟩, ⟨0, 120, 0, ⟨#[120]⟩⟩, ⟨0, 98, 0, ⟨#[98]⟩⟩]
theorem ord3 : ordO (dcs l3) (nmA (aTs l3)) [0, 2, 1] = some R3 := by
  rw [dcs3, nm3]
  kernel_rfl
theorem R3_len : R3.length ≤ 1048576 := by decide
theorem R3_tx : ∀ k, (tx3 (R3.take k)).size ≤ 1048576 * 1048576
  | 0 => by decide
  | 1 => by decide
  | 2 => by decide
  | k + 3 => by
    rw [List.take_of_length_le (by show 3 ≤ k + 3; omega)]
    decide
theorem R3_is : ((tx3 R3).toList == [97, 120, 98]) = true := by kernel_rfl
theorem chk1 : ChkIs (dcs l1) 1 2 false := by
  rw [dcs1]
  refine .inr ⟨rfl, ?_, [(1, 97), (2, 98)], rfl, .inr ⟨by decide, by decide, ⟨[(2, 98), (1, 97)], rfl, by decide, by decide⟩, ?_⟩⟩
  · intro i hi
    obtain rfl : i = 0 := by omega
    intro row h
    injection h with h
    subst h
    refine ⟨by decide, fun j r hj h hs => ?_⟩
    match j, h with
    | 1, h => injection h with h; subst h; decide
    | 2, h => injection h with h; subst h; decide
  · intro j r h1 h2
    omega
theorem chk2 : ChkIs (dcs l2) 0 0 true := by
  rw [dcs2]
  refine .inl ⟨rfl, rfl, rfl, ?_⟩
  intro i row h
  have hp : ∀ j r, [[((0 : Nat), (97 : Int)), (1, 98)], [(1, 98), (2, 99)], [(2, 99), (0, 97)]][j]? = some r → j < 3 := fun j r h => (List.getElem?_eq_some_iff.1 h).1
  have hi := hp i row h
  match i, h with
  | 0, h =>
    injection h with h; subst h
    refine ⟨by decide, fun j r hj h hs => ?_⟩
    match j, h with
    | 1, h => injection h with h; subst h; decide
    | 2, h => injection h with h; subst h; decide
  | 1, h =>
    injection h with h; subst h
    refine ⟨by decide, fun j r hj h hs => ?_⟩
    match j, h with
    | 2, h => injection h with h; subst h; decide
  | 2, h =>
    injection h with h; subst h
    refine ⟨by decide, fun j r hj h hs => ?_⟩
    have := hp j r h
    omega
end Go.Proofs.YtjimolafoihnpaaDoor.tc

/-
  The law's live.
-/
namespace Go.Proofs.YtjimolafoihnpaaDoor.tc
open Go.Maps Go.ChangeShapes Go.WideShapes Go.ChangeAt Go.RowKit Go.PlainAid

theorem tx3_take {l : List RunD} {k : Nat} (h : k < l.length) : tx3 (l.take (k + 1)) = tx3 (l.take k) ++ l[k].t := by
  rw [List.take_succ_eq_append_getElem h, tx3, List.foldl_append]
  rfl
theorem rdn_at {W : World} {ao : Option Addr} {n cp : Nat} {l : List RunD} (h : RdN W (.slice ao n cp) l) {i : Nat} {r : RunD} (hr : l[i]? = some r) : ∃ b off, ao = some ⟨b, off, none⟩ ∧ b < W.heap.size ∧
    W.cell? ⟨b, off + i * 4, none⟩ = some (.int .i64 r.c) ∧ W.cell? ⟨b, off + i * 4 + 1, none⟩ = some (.int .i64 r.q) ∧ W.cell? ⟨b, off + i * 4 + 2, none⟩ = some (.int .i64 r.f) ∧ W.cell? ⟨b, off + i * 4 + 3, none⟩ = some (.string r.t) := by
  obtain ⟨a, c, e, -, h⟩ := h
  injection e with e
  subst e
  exact h i r hr
set_option maxRecDepth 20000 in
set_option maxHeartbeats 1000000 in
theorem text12_any (v : Value) (l : List RunD) (w : World) (hr : RdN w v l) (hm : l.length ≤ 1048576) (ht : ∀ k, (tx3 (l.take k)).size ≤ 1048576 * 1048576) :
    Calls Tryd.prog 17 #[v] w fun e w' => e = .returned (.string (tx3 l)) ∧ Below w.heap.size w w' := by
  obtain ⟨ao, cp, hv, -⟩ := id hr
  subst hv
  go_enter Tryd.func17, Tryd.ntmps17
  go_wp2_with fail
  go_loopw [3, 4] (fun s i wr => ∃ (k : Nat), k ≤ l.length ∧ i = .int .i64 (k : Int) ∧ s = .string (tx3 (l.take k)) ∧ Below w.heap.size w wr) (fun _ i _ => l.length - (Go.RowKit.intOf i).toNat)
  case atStart => exact ⟨0, Nat.zero_le _, rfl, rfl, Below.refl _ _⟩
  case round =>
    obtain ⟨k, hk, rfl, rfl, hBr⟩ := hrel
    by_cases hlt : k < l.length
    · have hlt' : (k : Int) < (l.length : Int) := by omega
      obtain ⟨bb, off, e1, -, e2, e3, e4, e5⟩ := rdn_at (hr.below hBr) (i := k) (r := l[k]) (by simp [hlt])
      have HT : Hid (tx3 (l.take (k + 1)) = tx3 (l.take k) ++ l[k].t) := tx3_take hlt
      have hsz : (tx3 (l.take k)).size + l[k].t.size ≤ 1048576 * 1048576 := by
        have := ht (k + 1)
        rw [HT.out, ByteArray.size_append] at this
        exact this
      clear ht
      generalize tx3 (l.take k) = T at *
      generalize l[k] = r at *
      subst e1
      clear hr
      go_wp2_with fail
      exact ⟨⟨k + 1, by omega, by go_num, by rw [HT.out], hBr⟩, by simp [Go.RowKit.intOf]; omega⟩
    · obtain rfl : k = l.length := by omega
      rw [List.take_length]
      clear hr
      go_wp2_with fail
      go_ret
      exact ⟨rfl, hBr⟩
theorem wd_ok {s : ByteArray} (h : s.size ≤ 1000) : (wdR s).length ≤ 1048576 ∧ ∀ r ∈ wdR s, r.t.size ≤ 1048576 ∧ InI r.c ∧ InI r.q := by
  refine ⟨by simp [wdR]; omega, fun r hr => ?_⟩
  simp only [wdR, List.mem_map] at hr
  obtain ⟨i, -, rfl⟩ := hr
  have h1 := bt_nonneg s i
  have h2 := bt_le s i
  exact ⟨by simp only [ByteArray.size_extract]; omega, ⟨by show (-9223372036854775808 : Int) ≤ 0; omega, by show (0 : Int) ≤ 9223372036854775807; omega⟩, ⟨by show (-9223372036854775808 : Int) ≤ bt s i; omega, by show bt s i ≤ 9223372036854775807; omega⟩⟩
theorem rdl_lit {W : World} {g : Nat} {C : Array Value} {t : TypeId} {L : List (List RunD)} (h : W.heap[g]? = some (.cells C t)) (hc : ∀ (i : Nat) (l : List RunD), L[i]? = some l → ∃ u, C[i]? = some u ∧ RdN W u l) : RdL W (.slice (some ⟨g, 0, none⟩) L.length L.length) L := by
  refine ⟨_, _, rfl, Nat.le_refl _, fun i l hl => ?_⟩
  obtain ⟨u, hu, hr⟩ := hc i l hl
  refine ⟨g, 0, u, rfl, lt_heap h, ?_, hr⟩
  rw [Nat.zero_add, cell_of_row W g i C t (0, 0) h]
  exact hu
set_option maxRecDepth 20000 in
set_option maxHeartbeats 1000000 in
theorem live24_any (w : World) : Calls Tryd.prog 6 #[] w fun e w' => e = .returned (.bool true) ∧ Below w.heap.size w w' := by
  go_enter Tryd.func6, Tryd.ntmps6
  go_wp2_with fail
  refine (word_any bY _ (by decide)).mono ?_
  rintro e w1 ⟨v1, rfl, o1, h1⟩
  have r1 := rdn_ownT o1
  obtain ⟨a1, k1, rfl⟩ := own_form o1
  have e1 := h1
  go_wp2_with fail
  refine (word_any bA _ (by decide)).mono ?_
  rintro e w2 ⟨v2, rfl, o2, h2⟩
  have r2 := rdn_ownT o2
  obtain ⟨a2, k2, rfl⟩ := own_form o2
  replace r1 := r1.below h2
  have e2 := chain e1 h2
  go_wp2_with fail
  refine (word_any bZ _ (by decide)).mono ?_
  rintro e w3 ⟨v3, rfl, o3, h3⟩
  have r3 := rdn_ownT o3
  obtain ⟨a3, k3, rfl⟩ := own_form o3
  replace r1 := r1.below h3
  replace r2 := r2.below h3
  have e3 := chain e2 h3
  go_wp2_with fail
  have q3 : RdL (w3.alloc (.cells #[.slice a1 (wdR bY).length k1, .slice a2 (wdR bA).length k2, .slice a3 (wdR bZ).length k3] 22)) (.slice (some ⟨w3.heap.size, 0, none⟩) 3 3) l1 := by
    refine rdl_lit (L := l1) (heap_alloc_new w3 _) (fun i l hl => ?_)
    have hi : i < 3 := (List.getElem?_eq_some_iff.1 hl).1
    match i, hl with
    | 0, hl => injection hl with hl; subst hl; exact ⟨_, rfl, r1.below (alloc_b w3 _)⟩
    | 1, hl => injection hl with hl; subst hl; exact ⟨_, rfl, r2.below (alloc_b w3 _)⟩
    | 2, hl => injection hl with hl; subst hl; exact ⟨_, rfl, r3.below (alloc_b w3 _)⟩
  have c4 := check_any _ l1 _ q3 (by decide) (fun l hl => by
    simp only [l1, List.mem_cons, List.not_mem_nil, or_false] at hl
    rcases hl with rfl | rfl | rfl <;> exact wd_ok (by decide)) (by decide)
  have e4' := chain e3 (alloc_b w3 (.cells #[.slice a1 (wdR bY).length k1, .slice a2 (wdR bA).length k2, .slice a3 (wdR bZ).length k3] 22))
  refine c4.mono ?_
  rintro e w4 ⟨x, y, ok, rfl, hc, h4⟩
  obtain ⟨rfl, rfl, rfl⟩ := chk_one hc chk1
  have e4 := chain e4' h4
  clear c4 q3 hc h4 e4' r1 o1 h1 r2 o2 h2 r3 o3 h3
  go_wp2_with fail
  refine (word_any bA _ (by decide)).mono ?_
  rintro e w5 ⟨v5, rfl, o5, h5⟩
  have r5 := rdn_ownT o5
  obtain ⟨a5, k5, rfl⟩ := own_form o5
  have e5 := chain e4 h5
  go_wp2_with fail
  refine (word_any bB _ (by decide)).mono ?_
  rintro e w6 ⟨v6, rfl, o6, h6⟩
  have r6 := rdn_ownT o6
  obtain ⟨a6, k6, rfl⟩ := own_form o6
  replace r5 := r5.below h6
  have e6 := chain e5 h6
  go_wp2_with fail
  refine (word_any bC _ (by decide)).mono ?_
  rintro e w7 ⟨v7, rfl, o7, h7⟩
  have r7 := rdn_ownT o7
  obtain ⟨a7, k7, rfl⟩ := own_form o7
  replace r5 := r5.below h7
  replace r6 := r6.below h7
  have e7 := chain e6 h7
  go_wp2_with fail
  have q7 : RdL (w7.alloc (.cells #[.slice a5 (wdR bA).length k5, .slice a6 (wdR bB).length k6, .slice a7 (wdR bC).length k7] 22)) (.slice (some ⟨w7.heap.size, 0, none⟩) 3 3) l2 := by
    refine rdl_lit (L := l2) (heap_alloc_new w7 _) (fun i l hl => ?_)
    have hi : i < 3 := (List.getElem?_eq_some_iff.1 hl).1
    match i, hl with
    | 0, hl => injection hl with hl; subst hl; exact ⟨_, rfl, r5.below (alloc_b w7 _)⟩
    | 1, hl => injection hl with hl; subst hl; exact ⟨_, rfl, r6.below (alloc_b w7 _)⟩
    | 2, hl => injection hl with hl; subst hl; exact ⟨_, rfl, r7.below (alloc_b w7 _)⟩
  have c8 := check_any _ l2 _ q7 (by decide) (fun l hl => by
    simp only [l2, List.mem_cons, List.not_mem_nil, or_false] at hl
    rcases hl with rfl | rfl | rfl <;> exact wd_ok (by decide)) (by decide)
  have e8' := chain e7 (alloc_b w7 (.cells #[.slice a5 (wdR bA).length k5, .slice a6 (wdR bB).length k6, .slice a7 (wdR bC).length k7] 22))
  refine c8.mono ?_
  rintro e w8 ⟨x, y, ok, rfl, hc, h8⟩
  obtain ⟨rfl, rfl, rfl⟩ := chk_one hc chk2
  have e8 := chain e8' h8
  clear c8 q7 hc h8 e8' r5 o5 h5 r6 o6 h6 r7 o7 h7
  go_wp2_with fail
  refine (word_any bA _ (by decide)).mono ?_
  rintro e w9 ⟨v9, rfl, o9, h9⟩
  have r9 := rdn_ownT o9
  obtain ⟨a9, k9, rfl⟩ := own_form o9
  have e9 := chain e8 h9
  go_wp2_with fail
  refine (word_any bB _ (by decide)).mono ?_
  rintro e w10 ⟨v10, rfl, o10, h10⟩
  have r10 := rdn_ownT o10
  obtain ⟨a10, k10, rfl⟩ := own_form o10
  replace r9 := r9.below h10
  have e10 := chain e9 h10
  go_wp2_with fail
  refine (word_any bC _ (by decide)).mono ?_
  rintro e w11 ⟨v11, rfl, o11, h11⟩
  have r11 := rdn_ownT o11
  obtain ⟨a11, k11, rfl⟩ := own_form o11
  replace r9 := r9.below h11
  replace r10 := r10.below h11
  have e11 := chain e10 h11
  go_wp2_with fail
  have q11 : RdL (w11.alloc (.cells #[.slice a9 (wdR bA).length k9, .slice a10 (wdR bB).length k10, .slice a11 (wdR bC).length k11] 22)) (.slice (some ⟨w11.heap.size, 0, none⟩) 3 3) l2 := by
    refine rdl_lit (L := l2) (heap_alloc_new w11 _) (fun i l hl => ?_)
    have hi : i < 3 := (List.getElem?_eq_some_iff.1 hl).1
    match i, hl with
    | 0, hl => injection hl with hl; subst hl; exact ⟨_, rfl, r9.below (alloc_b w11 _)⟩
    | 1, hl => injection hl with hl; subst hl; exact ⟨_, rfl, r10.below (alloc_b w11 _)⟩
    | 2, hl => injection hl with hl; subst hl; exact ⟨_, rfl, r11.below (alloc_b w11 _)⟩
  obtain ⟨s12, hs12, hr12⟩ := Option.map_eq_some_iff.1 row2
  have c12 := order_any _ l2 1 s12 _ q11 (by decide) (fun l hl => by
    simp only [l2, List.mem_cons, List.not_mem_nil, or_false] at hl
    rcases hl with rfl | rfl | rfl <;> exact wd_ok (by decide)) (by decide) hs12 (by rw [hr12]; decide) (by rw [hr12, nm2]; decide)
  rw [hr12] at c12
  have e12' := chain e11 (alloc_b w11 (.cells #[.slice a9 (wdR bA).length k9, .slice a10 (wdR bB).length k10, .slice a11 (wdR bC).length k11] 22))
  rw [ord2] at c12
  refine c12.mono ?_
  rintro e w12 ⟨u, rfl, ho12, h12⟩
  simp only [Option.getD_none, List.map_nil, List.flatten_nil, List.length_nil, Option.isSome_none] at ho12 ⊢
  obtain ⟨aoN, koN, rfl⟩ := own_form ho12
  have e12 := chain e12' h12
  clear c12 q11 h12 e12' r9 o9 h9 r10 o10 h10 r11 o11 h11
  go_wp2_with fail
  refine (word_any bA _ (by decide)).mono ?_
  rintro e w13 ⟨v13, rfl, o13, h13⟩
  have r13 := rdn_ownT o13
  obtain ⟨a13, k13, rfl⟩ := own_form o13
  have e13 := chain e12 h13
  go_wp2_with fail
  refine (word_any bX _ (by decide)).mono ?_
  rintro e w14 ⟨v14, rfl, o14, h14⟩
  have r14 := rdn_ownT o14
  obtain ⟨a14, k14, rfl⟩ := own_form o14
  replace r13 := r13.below h14
  have e14 := chain e13 h14
  go_wp2_with fail
  have q14 : RdL (w14.alloc (.cells #[.slice a13 (wdR bA).length k13, .slice a14 (wdR bX).length k14] 22)) (.slice (some ⟨w14.heap.size, 0, none⟩) 2 2) l3 := by
    refine rdl_lit (L := l3) (heap_alloc_new w14 _) (fun i l hl => ?_)
    have hi : i < 2 := (List.getElem?_eq_some_iff.1 hl).1
    match i, hl with
    | 0, hl => injection hl with hl; subst hl; exact ⟨_, rfl, r13.below (alloc_b w14 _)⟩
    | 1, hl => injection hl with hl; subst hl; exact ⟨_, rfl, r14.below (alloc_b w14 _)⟩
  obtain ⟨s15, hs15, hr15⟩ := Option.map_eq_some_iff.1 row3
  have c15 := order_any _ l3 1 s15 _ q14 (by decide) (fun l hl => by
    simp only [l3, List.mem_cons, List.not_mem_nil, or_false] at hl
    rcases hl with rfl | rfl <;> exact wd_ok (by decide)) (by decide) hs15 (by rw [hr15]; decide) (by rw [hr15, nm3]; decide)
  rw [hr15] at c15
  have e15' := chain e14 (alloc_b w14 (.cells #[.slice a13 (wdR bA).length k13, .slice a14 (wdR bX).length k14] 22))
  rw [ord3] at c15
  refine c15.mono ?_
  rintro e w15 ⟨u, rfl, ho15, h15⟩
  simp only [Option.getD_some, Option.isSome_some] at ho15 ⊢
  have rR := rdn_ownT ho15
  obtain ⟨aoR, koR, rfl⟩ := own_form ho15
  have e15 := chain e15' h15
  clear c15 q14 h15 e15' r13 o13 h13 r14 o14 h14
  have cT := text12_any _ R3 w15 rR R3_len R3_tx
  have hT := R3_is
  generalize R3 = R at *
  go_wp2_with (refine cT.mono ?_; rintro e wF ⟨rfl, hF⟩)
  go_ret
  exact ⟨by simp, chain e15 hF⟩
end Go.Proofs.YtjimolafoihnpaaDoor.tc
