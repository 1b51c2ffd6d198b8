/-
  The reference's methods: Safe, Read, Write, Fuse, Waiting.
-/
import Derived.Test.YthgdjgbikljbeaaRefA
namespace Go.Proofs.Ythgdjgbikljbeaa
open Go.RowKit Go.Maps

set_option maxHeartbeats 400000 in
theorem rsafe_all {w : World} {q gs gi gw : Nat} {s : DevS} (h : IsRef w q gs gi gw s) (k : Int) :
    Calls Try.prog 36 #[.pointer (some ⟨q, 0, none⟩), .int .i64 k] w fun e w' => e = .returned (.tuple #[.string (s.safeR k).1, .int .i64 (s.safeR k).2]) ∧ w' = w := by
  obtain ⟨X, h, _⟩ := h
  have cH := rhas_any h k
  unfold DevS.safeR
  cases hb : s.inB k with
  | false =>
    rw [show (decide (0 ≤ k) && decide (k < (s.n : Int))) = false from hb] at cH
    rw [if_pos rfl]
    clear h hb
    go_enter Try.func36, Try.ntmps36
    go_wp2_with (first | (go_at_call 47; refine cH.mono ?_; rintro e w' ⟨rfl, rfl⟩))
    go_ret2
    exact ⟨rfl, rfl⟩
  | true =>
    rw [show (decide (0 ≤ k) && decide (k < (s.n : Int))) = true from hb] at cH
    rw [if_neg (by simp)]
    obtain ⟨i, rfl, hi⟩ := inB_true hb
    rw [Int.toNat_natCast]
    obtain ⟨cs, ci, cw, h0, h1, h2, h3, h4, hcs, _⟩ := h.cells
    have hc := h.rs.cell hi
    have hi' : (i : Int) < (s.n : Int) := by omega
    clear h hb h1 h2 h3 h4
    go_enter Try.func36, Try.ntmps36
    go_wp2_with (first | (go_at_call 47; refine cH.mono ?_; rintro e w' ⟨rfl, rfl⟩))
    go_ret2
    exact ⟨rfl, rfl⟩

set_option maxHeartbeats 800000 in
theorem rread_all {w : World} {q gs gi gw : Nat} {s : DevS} (h : IsRef w q gs gi gw s) (k : Int) :
    Calls Try.prog 35 #[.pointer (some ⟨q, 0, none⟩), .int .i64 k] w fun e w' => e = .returned (.tuple #[.string (s.read k).1, .int .i64 (s.read k).2]) ∧ w' = w := by
  obtain ⟨X, h, hX, _⟩ := h
  have cH := rhas_any h k
  obtain ⟨cs, ci, cw, h0, h1, h2, h3, h4, hcs, hci, hcw⟩ := h.cells
  unfold DevS.read
  cases hu : s.up with
  | false =>
    rw [if_pos rfl]
    have hf : (s.fuse == 0) = true := by
      unfold DevS.up at hu
      simpa using hu
    clear h cH hX h0 h1 h2 h4 hu
    go_enter Try.func35, Try.ntmps35
    go_wp2_with fail
    go_ret2
    exact ⟨rfl, rfl⟩
  | true =>
    rw [if_neg (by simp)]
    have hf : (s.fuse == 0) = false := by
      unfold DevS.up at hu
      simpa using hu
    cases hb : s.inB k with
    | false =>
      rw [show (decide (0 ≤ k) && decide (k < (s.n : Int))) = false from hb] at cH
      rw [if_pos rfl]
      clear h hb hX hu
      go_enter Try.func35, Try.ntmps35
      go_wp2_with (first | (go_at_call 47; refine cH.mono ?_; rintro e w' ⟨rfl, rfl⟩))
      go_ret2
      exact ⟨rfl, rfl⟩
    | true =>
      rw [show (decide (0 ≤ k) && decide (k < (s.n : Int))) = true from hb] at cH
      rw [if_neg (by simp)]
      obtain ⟨i, rfl, hi⟩ := inB_true hb
      rw [Int.toNat_natCast]
      have hc := h.rs.cell hi
      have hd := h.ri.cell hi
      have he := h.rx.cell hi
      have hi' : (i : Int) < (s.n : Int) := by omega
      unfold DevS.readAt
      cases hw : s.waits i with
      | none =>
        simp only [hw, Option.isSome_none] at hd
        rw [Option.getD_none]
        clear h hb hX hu hw he
        go_enter Try.func35, Try.ntmps35
        go_wp2_with (first | (go_at_call 47; refine cH.mono ?_; rintro e w' ⟨rfl, rfl⟩))
        go_ret2
        exact ⟨rfl, rfl⟩
      | some t =>
        simp only [hw, Option.isSome_some] at hd
        rw [Option.getD_some]
        simp only [hX i t hi hw] at he
        clear h hb hX hu hw hc
        go_enter Try.func35, Try.ntmps35
        go_wp2_with (first | (go_at_call 47; refine cH.mono ?_; rintro e w' ⟨rfl, rfl⟩))
        go_ret2
        exact ⟨rfl, rfl⟩

set_option maxHeartbeats 400000 in
theorem rfuse_all {w : World} {q gs gi gw : Nat} {s : DevS} (h : IsRef w q gs gi gw s) (n : Int) (hn : n ≤ 9223372036854775807) :
    Calls Try.prog 39 #[.pointer (some ⟨q, 0, none⟩), .int .i64 n] w fun e w' => e = .returned (.int .i64 (s.setF n).1) ∧ IsRef w' q gs gi gw (s.setF n).2 ∧ Only [q, gs, gi, gw] w w' := by
  unfold DevS.setF
  by_cases hl : n < -1
  · rw [if_pos hl]
    go_enter Try.func39, Try.ntmps39
    go_wp2
    go_ret
    exact ⟨rfl, h, Only.refl _ _⟩
  · rw [if_neg hl]
    obtain ⟨X, h, hX, _⟩ := h
    obtain ⟨cs, ci, cw, h0, h1, h2, h3, h4, _⟩ := h.cells
    have hz := h.z 3
    have R := h.setFuse n
    clear h h0 h1 h2 h4
    go_enter Try.func39, Try.ntmps39
    go_wp2
    go_ret
    exact ⟨rfl, ⟨X, R, hX, by show -1 ≤ n; omega, hn⟩, Only.setCell w (by simp) _⟩

theorem wf_sec {x : ByteArray} : mk x.data.toList = x := rfl

set_option maxHeartbeats 800000 in
theorem rwrite_all {w : World} {q gs gi gw : Nat} {s : DevS} (h : IsRef w q gs gi gw s) (k : Int) (x : ByteArray) :
    Calls Try.prog 37 #[.pointer (some ⟨q, 0, none⟩), .int .i64 k, .string x] w fun e w' => e = .returned (.int .i64 (s.write k x).1) ∧ IsRef w' q gs gi gw (s.write k x).2 ∧ Only [q, gs, gi, gw] w w' := by
  have H : Hid (IsRef w q gs gi gw s) := h
  obtain ⟨X, h, hX, hf0, hf1⟩ := h
  have cH := rhas_any h k
  obtain ⟨cs, ci, cw, h0, h1, h2, h3, h4, hcs, hci, hcw⟩ := h.cells
  unfold DevS.write
  cases hu : s.up with
  | false =>
    rw [if_pos rfl]
    have hf : (s.fuse == 0) = true := by
      unfold DevS.up at hu
      simpa using hu
    clear h cH hX h0 h1 h2 h4 hu
    go_enter Try.func37, Try.ntmps37
    go_wp2_with fail
    go_ret
    exact ⟨rfl, H.out, Only.refl _ _⟩
  | true =>
    rw [if_neg (by simp)]
    have hf : (s.fuse == 0) = false := by
      unfold DevS.up at hu
      simpa using hu
    cases hb : s.inB k with
    | false =>
      rw [show (decide (0 ≤ k) && decide (k < (s.n : Int))) = false from hb] at cH
      rw [if_pos (.inl rfl)]
      clear h hb hX hu
      go_enter Try.func37, Try.ntmps37
      go_wp2_with (first | (go_at_call 47; refine cH.mono ?_; rintro e w' ⟨rfl, hw⟩; subst hw))
      go_ret
      exact ⟨rfl, H.out, Only.refl _ _⟩
    | true =>
      rw [show (decide (0 ≤ k) && decide (k < (s.n : Int))) = true from hb] at cH
      by_cases hx : x.size = 64
      · rw [if_neg (by simp [hx])]
        have h64 : ((x.size : Int) != 64) = false := by rw [hx]; rfl
        obtain ⟨i, rfl, hi⟩ := inB_true hb
        rw [Int.toNat_natCast]
        have hi' : (i : Int) < (s.n : Int) := by omega
        obtain ⟨n1, n2, n3, n4, n5⟩ := h.inner
        have g1 := h.ri.cell hi
        have z1 := h.ri.z i
        have R1 := h.setI i true
        obtain ⟨cs', ci', cw', h0', h1', h2', h3', h4', hcs', hci', hcw'⟩ := R1.cells
        have g2 := R1.rx.cell hi
        have z2 := R1.rx.z i
        have R2 := R1.setX i x
        have cB := rburn_any R2 hf0 hf1
        have hfin : ∀ w2, IsRG w2 q gs gi gw s.n (burnt s.fuse) s.age (fun i => mk (s.safeAt i)) (fun j => if j = i then true else (s.waits j).isSome) (fun j => if j = i then x else X j) → IsRef w2 q gs gi gw { s with waits := putF s.waits i x.data.toList, fuse := burnt s.fuse } := by
          intro w2 h2
          refine ⟨fun j => if j = i then x else X j, h2.congr (fun j _ => rfl) (fun j _ => ?_) (fun j _ => rfl), fun j t hj ht => ?_, ?_, ?_⟩
          · show (if j = i then true else (s.waits j).isSome) = (putF s.waits i x.data.toList j).isSome
            unfold putF
            split <;> rfl
          · have ht' : putF s.waits i x.data.toList j = some t := ht
            unfold putF at ht'
            show (if j = i then x else X j) = mk t
            by_cases e : j = i
            · rw [if_pos e] at ht' ⊢
              rw [← Option.some.inj ht', wf_sec]
            · rw [if_neg e] at ht' ⊢
              exact hX j t hj ht'
          · show -1 ≤ burnt s.fuse
            unfold burnt
            split <;> omega
          · show burnt s.fuse ≤ _
            unfold burnt
            split <;> omega
        clear h hb hX hu R1 R2 H hf0 hf1 hx
        go_enter Try.func37, Try.ntmps37
        go_wp2_with (first | (go_at_call 47; refine cH.mono ?_; rintro e w' ⟨rfl, hw⟩; subst hw) | (go_at_call 48; refine cB.mono ?_; rintro e w3 ⟨rfl, h3, ho3⟩))
        go_ret
        exact ⟨rfl, hfin _ h3, ((Only.setCell _ (by simp) _).trans (Only.setCell _ (by simp) _)).trans (ho3.mono (by simp))⟩
      · rw [if_pos (.inr hx)]
        have h64 : ((x.size : Int) != 64) = true := by rw [bne_iff_ne]; omega
        clear h hb hX hu hx
        go_enter Try.func37, Try.ntmps37
        go_wp2_with (first | (go_at_call 47; refine cH.mono ?_; rintro e w' ⟨rfl, hw⟩; subst hw))
        go_ret
        exact ⟨rfl, H.out, Only.refl _ _⟩
end Go.Proofs.Ythgdjgbikljbeaa
