/-
  The bytes of code points; the contracts of appendPoint and Text.
-/
import Derived.Test.YtofmficdfkeffaaDoorTxRun
import Derived.Lib.AppendStr
namespace Go.Proofs.YtofmficdfkeffaaDoor
open Go.ChangeShapes Go.WideShapes Go.ChangeAt Go.RowKit Go.PlainAid

theorem Tryd.info5 : (Tryd.prog.info? 5).map (fun i => (i.zero, i.size, i.bytes)) = some (some (.int .u8 0), 1, 1) := by kernel_rfl

/-- The bytes of a code point. -/
def ptB (n : Nat) : List UInt8 :=
  if n < 128 then [UInt8.ofNat n]
  else if n < 2048 then [UInt8.ofNat (192 + n / 64), UInt8.ofNat (128 + n % 64)]
  else if n < 65536 then [UInt8.ofNat (224 + n / 4096), UInt8.ofNat (128 + n / 64 % 64), UInt8.ofNat (128 + n % 64)]
  else [UInt8.ofNat (240 + n / 262144), UInt8.ofNat (128 + n / 4096 % 64), UInt8.ofNat (128 + n / 64 % 64), UInt8.ofNat (128 + n % 64)]

theorem ptB1 {n : Nat} (h : n < 128) : ptB n = [UInt8.ofNat n] := by rw [ptB, if_pos h]
theorem ptB2 {n : Nat} (h1 : 128 ≤ n) (h : n < 2048) : ptB n = [UInt8.ofNat (192 + n / 64), UInt8.ofNat (128 + n % 64)] := by rw [ptB, if_neg (by omega), if_pos h]
theorem ptB3 {n : Nat} (h1 : 2048 ≤ n) (h : n < 65536) : ptB n = [UInt8.ofNat (224 + n / 4096), UInt8.ofNat (128 + n / 64 % 64), UInt8.ofNat (128 + n % 64)] := by rw [ptB, if_neg (by omega), if_neg (by omega), if_pos h]
theorem ptB4 {n : Nat} (h1 : 65536 ≤ n) : ptB n = [UInt8.ofNat (240 + n / 262144), UInt8.ofNat (128 + n / 4096 % 64), UInt8.ofNat (128 + n / 64 % 64), UInt8.ofNat (128 + n % 64)] := by rw [ptB, if_neg (by omega), if_neg (by omega), if_neg (by omega)]

theorem ptB_len (n : Nat) : 1 ≤ (ptB n).length ∧ (ptB n).length ≤ 4 := by
  unfold ptB; split; · simp
  split; · simp
  split <;> simp

theorem bv_one {x : Nat} {y : Int} (h : x < 256) (e : (x : Int) = y) : Value.int .u8 ((UInt8.ofNat x).toNat : Int) = .int .u8 y := by rw [byte_nat x h, e]

theorem many_new (wr : World) (l : List Value) (e : Nat) : ∀ j u, l[j]? = some u → (wr.alloc (.cells l.toArray e)).cell? ((⟨wr.heap.size, 0, none⟩ : Addr).add j) = some u := by
  intro j u hj
  have hadd : (⟨wr.heap.size, 0, none⟩ : Addr).add j = ⟨wr.heap.size, j, none⟩ := by unfold Addr.add; split <;> simp_all
  rw [hadd, cell_of_row _ _ j l.toArray e (0, 0) (heap_alloc_new wr _)]
  simpa using hj

theorem many_one (l : List Int) : ∀ u ∈ l.map (Value.int .u8), u.oneCell' = true := by
  intro u hu
  simp only [List.mem_map] at hu
  obtain ⟨x, _, rfl⟩ := hu
  rfl

theorem own_more {w1 : World} {base e n m : Nat} {v' : Value} {L M : List UInt8} {xs : List Value} (h : w1.ownsRow base e 1 v' (n + m) (bv L ++ xs)) (hn : L.length = n) (hm : M.length = m) (hx : bv M = xs) :
    w1.ownsRow base e 1 v' (L ++ M).length (bv (L ++ M)) := by
  subst hx; subst hn; subst hm
  rw [bv_append, List.length_append]
  exact h

set_option maxRecDepth 20000 in
set_option maxHeartbeats 2000000 in
theorem appendPoint_any (base : Nat) (v : Value) (l : List UInt8) (n : Nat) (w : World) (hb : base ≤ w.heap.size) (hok : szI (n : Int) ≠ 0) (hl : l.length ≤ 70368744177664) (hown : w.ownsRow base 5 1 v l.length (bv l)) :
    Calls Tryd.prog 72 #[v, .int .i64 (n : Int)] w fun e w' => ∃ v', e = .returned v' ∧ w'.ownsRow base 5 1 v' (l ++ ptB n).length (bv (l ++ ptB n)) ∧ Below base w w' := by
  obtain ⟨i0, hi, hz0, hz1, hz2⟩ := info_parts Tryd.info5
  have hr : ¬ ((n : Int) < 0 ∨ 1114111 < (n : Int) ∨ (55296 ≤ (n : Int) ∧ (n : Int) ≤ 57343)) := fun h => hok (by rw [szI, if_pos h])
  have hsz := sizeOf_any (n : Int)
  have a0 := u8_and63 (x := (n : Int) % 256) (by omega) (by omega)
  have a1 := u8_and63 (x := (n : Int) / 64 % 256) (by omega) (by omega)
  have a2 := u8_and63 (x := (n : Int) / 4096 % 256) (by omega) (by omega)
  rw [show (n : Int) % 256 % 64 = (n : Int) % 64 by omega] at a0
  rw [show (n : Int) / 64 % 256 % 64 = (n : Int) / 64 % 64 by omega] at a1
  rw [show (n : Int) / 4096 % 256 % 64 = (n : Int) / 4096 % 64 by omega] at a2
  have o0 := u8_or128 (y := (n : Int) % 64) (by omega) (by omega)
  have o1 := u8_or128 (y := (n : Int) / 64 % 64) (by omega) (by omega)
  have o2 := u8_or128 (y := (n : Int) / 4096 % 64) (by omega) (by omega)
  by_cases c1 : (n : Int) < 128
  · have e : szI (n : Int) = 1 := by rw [szI, if_neg hr, if_pos c1]
    rw [e] at hsz
    clear e hok
    go_enter Tryd.func72, Tryd.ntmps72
    go_wp2_with (first | (go_at_call 71; refine (hsz _).mono ?_; rintro e w1 ⟨rfl, rfl⟩) | (at_builtin; refine wpList_append_own _ rfl (.tmp 9) (.tmp 12) 89 rfl base 5 i0 (.int .u8 0) 1 1 Tryd.underlying89 hi hz0 hz1 hz2 rfl (by decide) _ _ _ rfl (hown.alloc _) ⟨_, 0, none⟩ 1 1 [.int .u8 (n : Int)] rfl rfl (one_new _ _ _) (one_one _ rfl) (by unfold maxLen; omega) (by omega) (by simp; omega) ?_; intro v' w3 ho3 hg3 hnil3) | go_in)
    have R2 := below_app hb (Below.refl _ _) hown hg3
    go_ret
    exact ⟨_, rfl, own_more ho3 rfl (by rw [ptB1 (by omega)]; rfl) (by rw [ptB1 (by omega)]; simp only [bv, List.map_cons, List.map_nil]; rw [bv_one (by omega) rfl]), R2⟩
  · by_cases c2 : (n : Int) < 2048
    · have e : szI (n : Int) = 2 := by rw [szI, if_neg hr, if_neg c1, if_pos c2]
      rw [e] at hsz
      have q0 := u8_or192 (y := (n : Int) / 64) (by omega) (by omega)
      clear e hok
      go_enter Tryd.func72, Tryd.ntmps72
      go_wp2_with (first | (go_at_call 71; refine (hsz _).mono ?_; rintro e w1 ⟨rfl, rfl⟩) | (at_builtin; refine wpList_append_own _ rfl (.tmp 16) (.tmp 23) 89 rfl base 5 i0 (.int .u8 0) 1 1 Tryd.underlying89 hi hz0 hz1 hz2 rfl (by decide) _ _ _ rfl (hown.alloc _) ⟨_, 0, none⟩ 2 2 [.int .u8 (192 + (n : Int) / 64), .int .u8 (128 + (n : Int) % 64)] rfl rfl (many_new _ _ _) (many_one [_, _]) (by unfold maxLen; omega) (by omega) (by simp; omega) ?_; intro v' w3 ho3 hg3 hnil3) | go_in)
      have R2 := below_app hb (Below.refl _ _) hown hg3
      go_ret
      exact ⟨_, rfl, own_more ho3 rfl (by rw [ptB2 (by omega) (by omega)]; rfl) (by rw [ptB2 (by omega) (by omega)]; simp only [bv, List.map_cons, List.map_nil]; rw [bv_one (y := 192 + (n : Int) / 64) (by omega) (by omega), bv_one (y := 128 + (n : Int) % 64) (by omega) (by omega)]), R2⟩
    · by_cases c3 : (n : Int) < 65536
      · have e : szI (n : Int) = 3 := by rw [szI, if_neg hr, if_neg c1, if_neg c2, if_pos c3]
        rw [e] at hsz
        have q0 := u8_or224 (y := (n : Int) / 4096) (by omega) (by omega)
        clear e hok
        go_enter Tryd.func72, Tryd.ntmps72
        go_wp2_with (first | (go_at_call 71; refine (hsz _).mono ?_; rintro e w1 ⟨rfl, rfl⟩) | (at_builtin; refine wpList_append_own _ rfl (.tmp 27) (.tmp 36) 89 rfl base 5 i0 (.int .u8 0) 1 1 Tryd.underlying89 hi hz0 hz1 hz2 rfl (by decide) _ _ _ rfl (hown.alloc _) ⟨_, 0, none⟩ 3 3 [.int .u8 (224 + (n : Int) / 4096), .int .u8 (128 + (n : Int) / 64 % 64), .int .u8 (128 + (n : Int) % 64)] rfl rfl (many_new _ _ _) (many_one [_, _, _]) (by unfold maxLen; omega) (by omega) (by simp; omega) ?_; intro v' w3 ho3 hg3 hnil3) | go_in)
        have R2 := below_app hb (Below.refl _ _) hown hg3
        go_ret
        exact ⟨_, rfl, own_more ho3 rfl (by rw [ptB3 (by omega) (by omega)]; rfl) (by rw [ptB3 (by omega) (by omega)]; simp only [bv, List.map_cons, List.map_nil]; rw [bv_one (y := 224 + (n : Int) / 4096) (by omega) (by omega), bv_one (y := 128 + (n : Int) / 64 % 64) (by omega) (by omega), bv_one (y := 128 + (n : Int) % 64) (by omega) (by omega)]), R2⟩
      · have e : szI (n : Int) = 4 := by rw [szI, if_neg hr, if_neg c1, if_neg c2, if_neg c3]
        rw [e] at hsz
        have q0 := u8_or240 (y := (n : Int) / 262144) (by omega) (by omega)
        clear e hok
        go_enter Tryd.func72, Tryd.ntmps72
        go_wp2_with (first | (go_at_call 71; refine (hsz _).mono ?_; rintro e w1 ⟨rfl, rfl⟩) | (at_builtin; refine wpList_append_own _ rfl (.tmp 40) (.tmp 51) 89 rfl base 5 i0 (.int .u8 0) 1 1 Tryd.underlying89 hi hz0 hz1 hz2 rfl (by decide) _ _ _ rfl (hown.alloc _) ⟨_, 0, none⟩ 4 4 [.int .u8 (240 + (n : Int) / 262144), .int .u8 (128 + (n : Int) / 4096 % 64), .int .u8 (128 + (n : Int) / 64 % 64), .int .u8 (128 + (n : Int) % 64)] rfl rfl (many_new _ _ _) (many_one [_, _, _, _]) (by unfold maxLen; omega) (by omega) (by simp; omega) ?_; intro v' w3 ho3 hg3 hnil3) | go_in)
        have R2 := below_app hb (Below.refl _ _) hown hg3
        go_ret
        exact ⟨_, rfl, own_more ho3 rfl (by rw [ptB4 (by omega)]; rfl) (by rw [ptB4 (by omega)]; simp only [bv, List.map_cons, List.map_nil]; rw [bv_one (y := 240 + (n : Int) / 262144) (by omega) (by omega), bv_one (y := 128 + (n : Int) / 4096 % 64) (by omega) (by omega), bv_one (y := 128 + (n : Int) / 64 % 64) (by omega) (by omega), bv_one (y := 128 + (n : Int) % 64) (by omega) (by omega)]), R2⟩
end Go.Proofs.YtofmficdfkeffaaDoor

/-
  The contracts of text.Text and the reference's point, bytes and Text.
-/
namespace Go.Proofs.YtofmficdfkeffaaDoor
open Go.ChangeShapes Go.WideShapes Go.ChangeAt Go.RowKit Go.PlainAid

/-- The slice v reads as these numbers. -/
def ReadsI (w : World) (v : Value) (zs : List Int) : Prop :=
  (zs = [] ∧ ∃ ao cp, v = .slice ao 0 cp) ∨ ∃ b off cp, v = .slice (some ⟨b, off, none⟩) zs.length cp ∧ ∀ i, i < zs.length → w.cell? ⟨b, off + i, none⟩ = some (.int .i64 (zs.getD i 0))

theorem readsI_below {w w' : World} {v : Value} {zs : List Int} (h : ReadsI w v zs) (hb : Below w.heap.size w w') : ReadsI w' v zs := by
  rcases h with h | ⟨b, off, cp, rfl, h⟩
  · exact .inl h
  · exact .inr ⟨b, off, cp, rfl, fun i hi => (hb.cell (World.block_lt_of_cell? w _ (h i hi))).trans (h i hi)⟩

theorem readsI_own {w : World} {base : Nat} {v : Value} {zs : List Int} (h : w.ownsRow base 3 1 v zs.length (iv zs)) : ReadsI w v zs := by
  rcases h.2 with ⟨rfl, h0⟩ | ⟨g, cap, cur, rfl, _⟩
  · exact .inl ⟨List.eq_nil_of_length_eq_zero h0, _, _, rfl⟩
  · refine .inr ⟨g, 0, cap, rfl, fun i hi => ?_⟩
    have := h.cells (g := g) rfl i (.int .i64 (zs.getD i 0)) (by simp [iv, hi])
    have hadd : (⟨g, 0, none⟩ : Addr).add i = ⟨g, 0 + i, none⟩ := by unfold Addr.add; split <;> simp_all
    rw [hadd] at this
    exact this

theorem readsI_at {w : World} {v : Value} {zs : List Int} (h : ReadsI w v zs) : ∃ ao cp, v = .slice ao zs.length cp ∧ (0 < zs.length → ∃ b off, ao = some ⟨b, off, none⟩ ∧ ∀ i, i < zs.length → w.cell? ⟨b, off + i, none⟩ = some (.int .i64 (zs.getD i 0))) := by
  rcases h with ⟨rfl, ao, cp, rfl⟩ | ⟨b, off, cp, rfl, h⟩
  · exact ⟨ao, cp, rfl, fun h => by simp at h⟩
  · exact ⟨_, cp, rfl, fun _ => ⟨b, off, rfl, h⟩⟩

/-- The bytes of numbers. -/
def enc (zs : List Int) : List UInt8 := (zs.map (fun z => ptB z.toNat)).flatten
theorem enc_nil : enc [] = [] := rfl
theorem enc_append (a b : List Int) : enc (a ++ b) = enc a ++ enc b := by simp [enc]
theorem enc_one (z : Int) : enc [z] = ptB z.toNat := by simp [enc]
theorem enc_len (zs : List Int) : (enc zs).length ≤ 4 * zs.length := by
  induction zs with
  | nil => simp [enc]
  | cons z zs ih =>
    have h := ptB_len z.toNat
    have e : enc (z :: zs) = ptB z.toNat ++ enc zs := by simp [enc]
    rw [e, List.length_append, List.length_cons]
    omega
theorem take_snocI (zs : List Int) (k : Nat) (h : k < zs.length) : zs.take (k + 1) = zs.take k ++ [zs.getD k 0] := by
  rw [List.take_succ_eq_append_getElem h]; simp [h]
theorem enc_succ (zs : List Int) (k : Nat) (h : k < zs.length) : enc (zs.take (k + 1)) = enc (zs.take k) ++ ptB (zs.getD k 0).toNat := by
  rw [take_snocI zs k h, enc_append, enc_one]
theorem enc_take_len (zs : List Int) (k : Nat) : (enc (zs.take k)).length ≤ 4 * zs.length := by
  have h1 := enc_len (zs.take k)
  have h2 : (zs.take k).length ≤ zs.length := List.length_take_le' ..
  omega

/-- What making a text of numbers gives. -/
def textR (zs : List Int) : ByteArray × Bool := if ∀ z ∈ zs, szI z ≠ 0 then (mk (enc zs), true) else (⟨#[]⟩, false)

theorem szI_nonneg {z : Int} (h : szI z ≠ 0) : 0 ≤ z ∧ z ≤ 1114111 ∧ ¬ (55296 ≤ z ∧ z ≤ 57343) := by
  by_cases hc : z < 0 ∨ 1114111 < z ∨ (55296 ≤ z ∧ z ≤ 57343)
  · exact absurd (by rw [szI, if_pos hc]) h
  · omega

set_option maxRecDepth 20000 in
set_option maxHeartbeats 2000000 in
theorem text_any (v : Value) (zs : List Int) (w : World) (hm : zs.length ≤ 17592186044416) (hr : ReadsI w v zs) :
    Calls Tryd.prog 45 #[v] w fun e w' => e = .returned (.tuple #[.string (textR zs).1, .bool (textR zs).2]) ∧ Below w.heap.size w w' := by
  obtain ⟨i0, hi, hz0, hz1, hz2⟩ := info_parts Tryd.info5
  obtain ⟨ao, cp, rfl, hao⟩ := readsI_at hr
  clear hr
  go_enter Tryd.func45, Tryd.ntmps45
  go_wp2_with (refine wpList_make_own _ rfl _ (.tmp 8) 89 rfl w.heap.size 5 i0 (.int .u8 0) 1 Tryd.underlying89 hi hz0 hz1 .i64 .i64 (zs.length : Int) zs.length rfl rfl rfl (by rw [hz2]; omega) (by unfold maxLen; omega) (Nat.le_refl _) ?_; intro w2 ho2 hg2)
  have hb2 : Below w.heap.size w w2 := ⟨hg2.os, hg2.tape, hg2.output, hg2.size, fun k hk => hg2.block k hk (by simp)⟩
  clear hg2
  go_loopw [4, 12] (fun t i wr => ∃ k : Nat, k ≤ zs.length ∧ i = .int .i64 (k : Int) ∧ wr.ownsRow w.heap.size 5 1 t (enc (zs.take k)).length (bv (enc (zs.take k))) ∧ Below w.heap.size w wr ∧ Hid (∀ j, j < k → szI (zs.getD j 0) ≠ 0)) (fun _ i _ => zs.length - (intOf i).toNat)
  case atStart => exact ⟨0, by omega, rfl, ho2, hb2, fun j hj => by omega⟩
  case round =>
    obtain ⟨k, hk, rfl, hown, hbl, hall⟩ := hrel
    clear ho2
    by_cases hlt : k < zs.length
    · obtain ⟨b, off, rfl, hcell⟩ := hao (by omega)
      have g1 := hcell k hlt
      have c1 := (hbl.cell (World.block_lt_of_cell? w _ g1)).trans g1
      have HX : Hid (zs.getD k 0 ∈ zs) := by
        show _ ∈ _
        simp [hlt]
      have HK : Hid (∀ j, j < k + 1 → szI (zs.getD k 0) ≠ 0 → szI (zs.getD j 0) ≠ 0) := fun j hj hx => by
        by_cases e : j = k
        · subst e; exact hx
        · exact hall.out j (by omega)
      have HP : Hid (enc (zs.take (k + 1)) = enc (zs.take k) ++ ptB (zs.getD k 0).toNat) := enc_succ zs k hlt
      have hel := enc_take_len zs k
      clear hcell g1 hao
      generalize zs.getD k 0 = z at c1 HX HK HP
      have hsz := sizeOf_any z
      by_cases hok : szI z = 0
      · have HR : Hid (textR zs = (⟨#[]⟩, false)) := by
          show _ = _
          rw [textR, if_neg (fun h => h z HX.out hok)]
        rw [hok] at hsz
        clear HK HX HP
        go_wp2_with (go_at_call 71; refine (hsz _).mono ?_; rintro e w1 ⟨rfl, rfl⟩)
        go_ret2
        exact ⟨by rw [HR.out]; rfl, hbl⟩
      · have hz := szI_nonneg hok
        have hne : (szI z == 0) = false := by simpa using hok
        obtain ⟨n, rfl⟩ := Int.eq_ofNat_of_zero_le hz.1
        have hc := appendPoint_any w.heap.size _ (enc (zs.take k)) n wr hbl.size hok (by omega) hown
        simp only [Int.toNat_natCast] at HP
        go_wp2_with (first | (go_at_call 71; refine (hsz _).mono ?_; rintro e w1 ⟨rfl, rfl⟩) | (go_at_call 72; refine hc.mono ?_; rintro e w3 ⟨v3, rfl, ho3, hb3⟩))
        rw [← HP.out] at ho3
        clear hc hown
        go_roundw
        case rel => exact ⟨k + 1, by omega, by go_num, ho3, hbl.trans hb3, fun j hj => HK.out j hj hok⟩
        case measure => simp [intOf]; omega
    · have hall' : ∀ z ∈ zs, szI z ≠ 0 := fun z hz => by
        obtain ⟨j, hj, rfl⟩ := List.getElem_of_mem hz
        have := hall.out j (by omega)
        simpa [hj] using this
      have HR : Hid (textR zs = (mk (enc zs), true)) := by
        show _ = _
        rw [textR, if_pos hall']
      have hq' : k = zs.length := by omega
      subst hq'
      rw [List.take_length] at hown
      have hc := conv_own (dst := 9) Tryd.underlying89 Tryd.underlying5 Tryd.underlying9 hown
      clear hall' hall hown hao
      go_wp2
      go_ret2
      exact ⟨by rw [HR.out]; rfl, hbl⟩

set_option maxRecDepth 20000 in
set_option maxHeartbeats 1000000 in
theorem refPoint_any (z : Int) (w : World) : Calls Tryd.prog 65 #[.int .i64 z] w fun e w' => e = .returned (.bool (decide (szI z ≠ 0))) ∧ w = w' := by
  by_cases c1 : z < 0
  · have e : decide (szI z ≠ 0) = false := by simp [szI, c1]
    rw [e]
    go_enter Tryd.func65, Tryd.ntmps65
    go_wp2
    go_ret
    exact ⟨rfl, rfl⟩
  · by_cases c2 : 1114111 < z
    · have e : decide (szI z ≠ 0) = false := by simp [szI, c2]
      rw [e]
      go_enter Tryd.func65, Tryd.ntmps65
      go_wp2
      go_ret
      exact ⟨rfl, rfl⟩
    · by_cases c3 : z < 55296
      · have e : decide (szI z ≠ 0) = true := by
          simp only [decide_eq_true_eq]
          rw [szI, if_neg (by omega)]
          split; · omega
          split; · omega
          split <;> omega
        rw [e]
        go_enter Tryd.func65, Tryd.ntmps65
        go_wp2
        go_ret
        exact ⟨rfl, rfl⟩
      · by_cases c4 : 57343 < z
        · have e : decide (szI z ≠ 0) = true := by
            simp only [decide_eq_true_eq]
            rw [szI, if_neg (by omega)]
            split; · omega
            split; · omega
            split <;> omega
          rw [e]
          go_enter Tryd.func65, Tryd.ntmps65
          go_wp2
          go_ret
          exact ⟨rfl, rfl⟩
        · have e : decide (szI z ≠ 0) = false := by
            have : szI z = 0 := by rw [szI, if_pos (by omega)]
            simp [this]
          rw [e]
          go_enter Tryd.func65, Tryd.ntmps65
          go_wp2
          go_ret
          exact ⟨rfl, rfl⟩

theorem conv_lit (F : List UInt8) (xs : List Value) (k : Nat) (hk : F.length = k) (hx : bv F = xs) (u : World) :
    (convert 89 9 (.slice (some ⟨u.heap.size, 0, none⟩) k k)).run Tryd.prog (u.alloc (.cells xs.toArray 5)) = .ok (.string (mk F)) (u.alloc (.cells xs.toArray 5)) := by
  subst hk
  exact run_convert_bytes_back _ 89 9 5 ⟨u.heap.size, 0, none⟩ F.length F Tryd.underlying89 Tryd.underlying5 Tryd.underlying9 (fun j hj => many_new u xs 5 j _ (by rw [← hx]; simp [bv, hj]))

set_option maxRecDepth 20000 in
set_option maxHeartbeats 1000000 in
theorem refBytes_any (n : Nat) (w : World) (hn : n ≤ 1114111) :
    Calls Tryd.prog 66 #[.int .i64 (n : Int)] w fun e w' => e = .returned (.string (mk (ptB n))) ∧ Below w.heap.size w w' := by
  have hn' : (n : Int) ≤ 1114111 := by omega
  by_cases c1 : (n : Int) < 128
  · have hc := conv_lit (ptB n) [.int .u8 (n : Int)] 1 (by rw [ptB1 (by omega)]; rfl) (by rw [ptB1 (by omega)]; simp only [bv, List.map_cons, List.map_nil]; rw [bv_one (by omega) rfl])
    generalize mk (ptB n) = F at hc
    go_enter Tryd.func66, Tryd.ntmps66
    go_wp2
    go_ret
    exact ⟨rfl, (Below.refl _ _).alloc (Nat.le_refl _) _⟩
  · by_cases c2 : (n : Int) < 2048
    · have hc := conv_lit (ptB n) [.int .u8 (192 + (n : Int) / 64), .int .u8 (128 + (n : Int) % 64)] 2 (by rw [ptB2 (by omega) (by omega)]; rfl) (by rw [ptB2 (by omega) (by omega)]; simp only [bv, List.map_cons, List.map_nil]; rw [bv_one (y := 192 + (n : Int) / 64) (by omega) (by omega), bv_one (y := 128 + (n : Int) % 64) (by omega) (by omega)])
      generalize mk (ptB n) = F at hc
      go_enter Tryd.func66, Tryd.ntmps66
      go_wp2
      go_ret
      exact ⟨rfl, (Below.refl _ _).alloc (Nat.le_refl _) _⟩
    · by_cases c3 : (n : Int) < 65536
      · have hc := conv_lit (ptB n) [.int .u8 (224 + (n : Int) / 4096), .int .u8 (128 + (n : Int) / 64 % 64), .int .u8 (128 + (n : Int) % 64)] 3 (by rw [ptB3 (by omega) (by omega)]; rfl) (by rw [ptB3 (by omega) (by omega)]; simp only [bv, List.map_cons, List.map_nil]; rw [bv_one (y := 224 + (n : Int) / 4096) (by omega) (by omega), bv_one (y := 128 + (n : Int) / 64 % 64) (by omega) (by omega), bv_one (y := 128 + (n : Int) % 64) (by omega) (by omega)])
        generalize mk (ptB n) = F at hc
        go_enter Tryd.func66, Tryd.ntmps66
        go_wp2
        go_ret
        exact ⟨rfl, (Below.refl _ _).alloc (Nat.le_refl _) _⟩
      · have hc := conv_lit (ptB n) [.int .u8 (240 + (n : Int) / 262144), .int .u8 (128 + (n : Int) / 4096 % 64), .int .u8 (128 + (n : Int) / 64 % 64), .int .u8 (128 + (n : Int) % 64)] 4 (by rw [ptB4 (by omega)]; rfl) (by rw [ptB4 (by omega)]; simp only [bv, List.map_cons, List.map_nil]; rw [bv_one (y := 240 + (n : Int) / 262144) (by omega) (by omega), bv_one (y := 128 + (n : Int) / 4096 % 64) (by omega) (by omega), bv_one (y := 128 + (n : Int) / 64 % 64) (by omega) (by omega), bv_one (y := 128 + (n : Int) % 64) (by omega) (by omega)])
        generalize mk (ptB n) = F at hc
        go_enter Tryd.func66, Tryd.ntmps66
        go_wp2
        go_ret
        exact ⟨rfl, (Below.refl _ _).alloc (Nat.le_refl _) _⟩

theorem own_text {w1 : World} {base e n : Nat} {v' : Value} {L M : List UInt8} (h : w1.ownsRow base e 1 v' (n + (mk M).size) (bv L ++ Lib.strCells (mk M))) (hn : L.length = n) :
    w1.ownsRow base e 1 v' (L ++ M).length (bv (L ++ M)) := by
  subst hn
  rw [bv_append, List.length_append]
  rw [mk_size] at h
  exact h

theorem below_grown {base : Nat} {w wr w1 : World} {e n : Nat} {v : Value} {xs : List Value} (hb : base ≤ w.heap.size) (hbl : Below base w wr) (hown : wr.ownsRow base e 1 v n xs) (hg : wr.grownBy w1 v.ownBlock) : Below base w w1 :=
  hbl.grown hg (Nat.le_trans hb hbl.size) (fun k hk => (hown.lt k hk).1)
theorem own_below {w w' : World} {base e n : Nat} {v : Value} {L : List Value} (h : w.ownsRow base e 1 v n L) (hb : Below w.heap.size w w') : w'.ownsRow base e 1 v n L :=
  h.kept (row := none) ⟨hb.os, hb.tape, hb.output, hb.size, fun k hk _ => hb.block k hk⟩ (by cases v.ownBlock <;> simp)

set_option maxRecDepth 20000 in
set_option maxHeartbeats 2000000 in
theorem refText_any (v : Value) (zs : List Int) (w : World) (hm : zs.length ≤ 17592186044416) (hr : ReadsI w v zs) :
    Calls Tryd.prog 37 #[v] w fun e w' => e = .returned (.tuple #[.string (textR zs).1, .bool (textR zs).2]) ∧ Below w.heap.size w w' := by
  obtain ⟨i0, hi, hz0, hz1, hz2⟩ := info_parts Tryd.info5
  obtain ⟨ao, cp, rfl, hao⟩ := readsI_at hr
  clear hr
  go_enter Tryd.func37, Tryd.ntmps37
  go_wp2
  go_loopw [4, 5] (fun t i wr => ∃ k : Nat, k ≤ zs.length ∧ i = .int .i64 (k : Int) ∧ wr.ownsRow w.heap.size 5 1 t (enc (zs.take k)).length (bv (enc (zs.take k))) ∧ Below w.heap.size w wr ∧ Hid (∀ j, j < k → szI (zs.getD j 0) ≠ 0)) (fun _ i _ => zs.length - (intOf i).toNat)
  case atStart => exact ⟨0, by omega, rfl, World.ownsRow_nil _ _ _ _, Below.refl _ _, fun j hj => by omega⟩
  case round =>
    obtain ⟨k, hk, rfl, hown, hbl, hall⟩ := hrel
    by_cases hlt : k < zs.length
    · obtain ⟨b, off, rfl, hcell⟩ := hao (by omega)
      have g1 := hcell k hlt
      have c1 := (hbl.cell (World.block_lt_of_cell? w _ g1)).trans g1
      have HX : Hid (zs.getD k 0 ∈ zs) := by
        show _ ∈ _
        simp [hlt]
      have HK : Hid (∀ j, j < k + 1 → szI (zs.getD k 0) ≠ 0 → szI (zs.getD j 0) ≠ 0) := fun j hj hx => by
        by_cases e : j = k
        · subst e; exact hx
        · exact hall.out j (by omega)
      have HP : Hid (enc (zs.take (k + 1)) = enc (zs.take k) ++ ptB (zs.getD k 0).toNat) := enc_succ zs k hlt
      have hel := enc_take_len zs k
      have hsz := hbl.size
      clear hcell g1 hao
      generalize zs.getD k 0 = z at c1 HX HK HP
      have hpt := refPoint_any z
      by_cases hok : szI z = 0
      · have HR : Hid (textR zs = (⟨#[]⟩, false)) := by
          show _ = _
          rw [textR, if_neg (fun h => h z HX.out hok)]
        rw [show decide (szI z ≠ 0) = false by simp [hok]] at hpt
        clear HK HX HP hok
        go_wp2_with (go_at_call 65; refine (hpt _).mono ?_; rintro e w1 ⟨rfl, rfl⟩)
        go_ret2
        exact ⟨by rw [HR.out]; rfl, hbl⟩
      · have hz := szI_nonneg hok
        rw [show decide (szI z ≠ 0) = true by simp [hok]] at hpt
        obtain ⟨n, rfl⟩ := Int.eq_ofNat_of_zero_le hz.1
        have hc := refBytes_any n wr (by omega)
        have hpl := ptB_len n
        have hmk : (mk (ptB n)).size = (ptB n).length := mk_size _
        simp only [Int.toNat_natCast] at HP
        go_wp2_with (first | (go_at_call 65; refine (hpt _).mono ?_; rintro e w1 ⟨rfl, rfl⟩) | (go_at_call 66; refine hc.mono ?_; rintro e w3 ⟨rfl, hb3⟩; have hs3 := hb3.size; have hown3 := own_below hown hb3) | (at_builtin; refine Lib.wpList_append_own_string _ rfl (.tmp 18) (.tmp 23) 89 9 rfl w.heap.size 5 i0 Tryd.underlying89 Tryd.underlying9 hi hz0 hz1 hz2 _ _ _ rfl hown3 (mk (ptB n)) rfl (by rw [hmk]; unfold maxLen; omega) (by rw [hmk]; omega) (by omega) ?_; intro v4 w4 ho4 hg4 hnil4))
        have R1 := own_text ho4 rfl
        have R2 := below_grown (Nat.le_refl _) (hbl.trans (hb3.mono hsz)) hown3 hg4
        rw [← HP.out] at R1
        clear hc hown hown3 ho4 hg4 hnil4
        go_roundw
        case rel => exact ⟨k + 1, by omega, by go_num, R1, R2, fun j hj => HK.out j hj hok⟩
        case measure => simp [intOf]; omega
    · have hall' : ∀ z ∈ zs, szI z ≠ 0 := fun z hz => by
        obtain ⟨j, hj, rfl⟩ := List.getElem_of_mem hz
        have := hall.out j (by omega)
        simpa [hj] using this
      have HR : Hid (textR zs = (mk (enc zs), true)) := by
        show _ = _
        rw [textR, if_pos hall']
      have hq' : k = zs.length := by omega
      subst hq'
      rw [List.take_length] at hown
      have hc := conv_own (dst := 9) Tryd.underlying89 Tryd.underlying5 Tryd.underlying9 hown
      clear hall' hall hown hao
      go_wp2
      go_ret2
      exact ⟨by rw [HR.out]; rfl, hbl⟩
end Go.Proofs.YtofmficdfkeffaaDoor
