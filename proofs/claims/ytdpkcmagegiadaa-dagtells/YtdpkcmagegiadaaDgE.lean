/-
  The contract of and: what both have marked.
-/
import Derived.Test.YtdpkcmagegiadaaDgD
namespace Go.Proofs.Ytdpkcmagegiadaa
open Go.Maps Go.WideShapes Go.RowKit Go.ChangeShapes Go.ChangeAt Go.PlainAid

theorem grown_of_only {W W' : World} {b : Nat} (h : Only [b] W W') : W.grownBy W' (some b) :=
  ⟨h.os, h.tape, h.output, h.size, fun i hi hn => h.block i hi (by simp; exact fun e => hn (by rw [e]))⟩
theorem grown_of_below {W W' : World} (h : Below W.heap.size W W') : W.grownBy W' none := ⟨h.os, h.tape, h.output, h.size, fun i hi _ => h.block i hi⟩

theorem andF_step {f g : Nat → Bool} {left : Lit → Bool} {i : Nat} (hf : f i = true) (hg : g i = true) (j : Nat) :
    putL (fun j => f j && g j && !left (.int .i64 (j : Int))) [(i : Int)] j = (f j && g j && !(left (.int .i64 (j : Int)) && !(Lit.int .i64 (j : Int)).sameKey (.int .i64 (i : Int)))) := by
  unfold putL
  by_cases e : j = i
  · subst e
    rw [WideAt.sameKey_self (key_mk _), hf, hg]
    simp
  · have e1 : (Lit.int .i64 (j : Int)).sameKey (.int .i64 (i : Int)) = false := by
      rw [Bool.eq_false_iff]
      intro h
      have := WideAt.sameKey_eq h
      simp only [Lit.int.injEq, true_and] at this
      omega
    rw [e1]
    have e2 : (j : Int) ≠ (i : Int) := by omega
    simp [List.contains_eq_mem, e2]
theorem andF_skip {f g : Nat → Bool} {left : Lit → Bool} {i : Nat} (hg : g i = false) (j : Nat) :
    (f j && g j && !left (.int .i64 (j : Int))) = (f j && g j && !(left (.int .i64 (j : Int)) && !(Lit.int .i64 (j : Int)).sameKey (.int .i64 (i : Int)))) := by
  by_cases e : j = i
  · subst e
    rw [hg]
    simp
  · have e1 : (Lit.int .i64 (j : Int)).sameKey (.int .i64 (i : Int)) = false := by
      rw [Bool.eq_false_iff]
      intro h
      have := WideAt.sameKey_eq h
      simp only [Lit.int.injEq, true_and] at this
      omega
    rw [e1]
    simp

/-- What and has on its way. -/
structure AM (w W : World) (b c r : Nat) (f g : Nat → Bool) (left : Lit → Bool) (cnt : Nat) : Prop where
  rg : W.ranges Try.prog 3 unitElem b r 512 (SD f) left cnt
  all : ∀ k, left k = true → has (SD f) k = true
  other : IsSet W c g
  both : IsSet W w.heap.size (fun j => f j && g j && !left (.int .i64 (j : Int)))
  bel : Below w.heap.size w W
  rn : r = w.heap.size + 1
  bl : b < w.heap.size
  cl : c < w.heap.size

set_option maxRecDepth 20000 in
set_option maxHeartbeats 2000000 in
theorem and_any {w : World} {b c : Nat} {f g : Nat → Bool} (hf : IsSet w b f) (hg : IsSet w c g) :
    Calls Try.prog 26 #[.map (some b), .map (some c)] w fun e w' => e = .returned (.map (some w.heap.size)) ∧ IsSet w' w.heap.size (fun j => f j && g j) ∧ Below w.heap.size w w' := by
  have hmm := @run_makeMap Try.prog
  have hbl := hf.lt
  have hcl := hg.lt
  have hA : Below w.heap.size w (w.alloc (.map #[] 0)) := (Below.refl _ _).alloc (Nat.le_refl _) _
  have hown : (w.alloc (.map #[] 0)).ownsMap Try.prog 3 unitElem b 512 (SD f) := hf.below hA
  have hg1 := hg.below hA
  have hb1 : IsSet (w.alloc (.map #[] 0)) w.heap.size (fun _ => false) := by
    have := World.ownsMap_made (H := Unit) w Try.prog 3 unitElem
    rw [← SD_none] at this
    exact tightS this
  clear hf hg
  go_enter Try.func26, Try.ntmps26
  go_wp2_with (at_range; refine wpList_range_own _ rfl _ 38 rfl 3 49 keyed Try.underlying38 unitElem b 512 (SD f) rfl hown ?_; intro w0 hrg0 hg0 hs0)
  go_frame
  clear hmm
  have hsz : (w.alloc (.map #[] 0)).heap.size = w.heap.size + 1 := by simp
  rw [hsz]
  have h0 : AM w w0 b c (w.heap.size + 1) f g (has (SD f)) (Maps.size (SD f)) := by
    have hO : Only [] (w.alloc (.map #[] 0)) w0 := Only.of_grown hg0 (by simp)
    have hbl0 : Below w.heap.size w w0 := hA.trans (hO.below (by simp) (by simp))
    rw [hsz] at hrg0
    refine ⟨hrg0, fun _ h => h, hg1.only hO (by simp), (hb1.only hO (by simp)).congr (fun j hj => ?_), hbl0, rfl, hbl, hcl⟩
    rw [has_at, inS_nat hj]
    cases f j <;> simp
  clear hA hown hg1 hb1 hrg0 hg0 hs0 hsz
  go_loopw [6] (fun _ wr => ∃ left cnt, AM w wr b c (w.heap.size + 1) f g left cnt) (fun _ wr => wr.rangeLeft b (w.heap.size + 1))
  case atStart => exact ⟨_, _, h0⟩
  case round =>
    obtain ⟨left, cnt, hM⟩ := hrel
    clear h0
    have hrg := hM.rg
    go_wp2_with (at_next; refine wpList_next_ranges _ rfl _ rfl 3 keyed unitElem (Value.int .i64) (fun (_ : Unit) => Value.agg #[]) (fun key kl hkey => by obtain ⟨x, rfl, _⟩ := Maps.keyOf_int_inv Try.underlying3 hkey; exact ⟨x, rfl⟩) (fun v y hv => by obtain ⟨rfl, _⟩ := unitElem_inv hv; exact ⟨(), rfl⟩) b (w.heap.size + 1) 512 _ _ _ rfl hrg ?_ ?_)
    · intro hc0 hl0
      have hF : Hid (IsSet wr w.heap.size (fun j => f j && g j)) := hM.both.congr (fun j _ => by rw [hl0]; simp)
      have hB : Hid (Below w.heap.size w wr) := hM.bel
      clear hM hrg hc0 hl0
      go_wp2_with fail
      go_ret
      exact ⟨rfl, hF.out, hB.out⟩
    · intro x u kl y w1 cnt1 hkey hlk hv hat hrg1 hlt hg1 hs1 hen
      obtain ⟨x', ex, rfl, _⟩ := Maps.keyOf_int_inv Try.underlying3 hkey
      cases ex
      obtain ⟨i, hi, hfi, ei⟩ := (has_SD f _).1 (hM.all _ hlk)
      simp only [Lit.int.injEq, true_and] at ei
      subst ei
      (try dsimp only at hen)
      have hO1 : Only [w.heap.size + 1] wr w1 := Only.of_grown hg1 (by simp)
      have hcl' := hM.cl
      have hc1 : IsSet w1 c g := hM.other.only hO1 (by simp; omega)
      have hn1 : IsSet w1 w.heap.size (fun j => f j && g j && !left (.int .i64 (j : Int))) := hM.both.only hO1 (by simp)
      have hB1 : Below w.heap.size w w1 := hM.bel.trans (hO1.below hM.bel.size (by simp))
      have HA : Hid (∀ k, (left k && !k.sameKey (.int .i64 (i : Int))) = true → has (SD f) k = true) := fun k hk => hM.all k (by simp at hk; exact hk.1)
      have hml : Hid (wr.rangeLeft b (w.heap.size + 1) = cnt) := hrg.left_eq
      have hbl' := hM.bl
      clear hM hrg hlk hv hat hg1 hs1 hkey hO1
      have cH := has_any hc1 (i : Int) (by omega) (by omega)
      rw [inS_nat hi] at cH
      cases hgi : g i with
      | false =>
        rw [hgi] at cH
        have HE : Hid (∀ j, (f j && g j && !left (.int .i64 (j : Int))) = (f j && g j && !(left (.int .i64 (j : Int)) && !(Lit.int .i64 (j : Int)).sameKey (.int .i64 (i : Int))))) := andF_skip hgi
        clear hgi hfi
        go_wp2_with fail
        refine cH.mono ?_
        rintro e w2 ⟨rfl, hb2⟩
        have hrg2 := hrg1.kept (grown_of_below hb2) (by simp) (by simp)
        have hc2 := hc1.below hb2
        have hn2 := hn1.below hb2
        have hB2 := chain hB1 hb2
        clear cH hrg1 hc1 hn1 hB1 hb2 hen
        go_wp2_with fail
        exact ⟨⟨_, cnt1, ⟨hrg2, HA.out, hc2, hn2.congr (fun j _ => HE.out j), hB2, rfl, hbl', hcl'⟩⟩, by rw [hrg2.left_eq, hml.out]; omega⟩
      | true =>
        rw [hgi] at cH
        have HE : Hid (∀ j, putL (fun j => f j && g j && !left (.int .i64 (j : Int))) [(i : Int)] j = (f j && g j && !(left (.int .i64 (j : Int)) && !(Lit.int .i64 (j : Int)).sameKey (.int .i64 (i : Int))))) := andF_step hfi hgi
        clear hgi hfi
        go_wp2_with fail
        refine cH.mono ?_
        rintro e w2 ⟨rfl, hb2⟩
        have hb3 : Below w1.heap.size w1 (w2.alloc (.cells #[.int .i64 (i : Int)] 3)) := hb2.alloc hb2.size _
        have hrg2 := hrg1.kept (grown_of_below hb3) (by simp) (by simp)
        have hc2 := hc1.below hb3
        have hn2 := hn1.below hb3
        have hB2 := chain hB1 hb3
        have cP := put_any hn2 (one_rdi w2 (i : Int)) (by simp) (by intro x hx; simp at hx; omega)
        clear cH hrg1 hc1 hn1 hB1 hb2 hb3 hen
        go_wp2_with fail
        refine cP.mono ?_
        rintro e w3 ⟨rfl, hS3, hO3⟩
        have hrg3 := hrg2.kept (grown_of_only hO3) (by simp; omega) (by simp)
        have hc3 := hc2.only hO3 (by simp; omega)
        have hB3 := hB2.trans (hO3.below hB2.size (by simp))
        clear cP hrg2 hc2 hn2 hB2 hO3
        go_wp2_with fail
        exact ⟨⟨_, cnt1, ⟨hrg3, HA.out, hc3, hS3.congr (fun j _ => HE.out j), hB3, rfl, hbl', hcl'⟩⟩, by rw [hrg3.left_eq, hml.out]; omega⟩
end Go.Proofs.Ytdpkcmagegiadaa
