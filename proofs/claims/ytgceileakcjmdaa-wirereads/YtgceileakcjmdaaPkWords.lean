/-
  Contracts: the reference's TakeText, Num, Text and Word; pack.TakeWord and the reference's.
-/
import Derived.Test.YtgceileakcjmdaaPkTexts
namespace Go.Proofs.Ytgceileakcjmdaa.pk
open Go.Proofs.Ytgceileakcjmdaa
open Go.ChangeShapes Go.WideShapes Go.ChangeAt Go.RowKit Go.PlainAid

set_option maxRecDepth 20000 in
set_option maxHeartbeats 1000000 in
theorem refText_any (s : ByteArray) (a : Int) (w : World) (hs : s.size ≤ maxLen) :
    Calls Try.prog 27 #[.string s, .int .i64 a] w fun e w' => e = .returned (.tuple #[.string (tkT s a).1, .int .i64 (tkT s a).2.1, .int .i64 (tkT s a).2.2]) ∧ w = w' := by
  have hc := refNum_any s a w hs
  have hcut := tk_cut s a (m := 20000) (M := 1125899906842624) (by decide)
  unfold maxLen at hs
  rcases tk_cases s a 1125899906842624 with ⟨n, p, hr, hn, hap, hp, ha⟩ | ⟨er, hr, her⟩
  · rw [hr] at hc hcut
    simp only at hc hcut
    by_cases hbig : (20000 : Int) < (n : Int)
    · rw [if_pos ⟨trivial, hbig⟩] at hcut
      have e : tkT s a = (⟨#[]⟩, 0, 22) := by unfold tkT; rw [hcut]; rfl
      rw [e]
      clear hr hcut
      go_enter Try.func27, Try.ntmps27
      go_wp2_with (go_at_call 26; refine hc.mono ?_; rintro e w' ⟨rfl, rfl⟩)
      go_ret3
      exact ⟨rfl, rfl⟩
    · rw [if_neg (by simp only [not_and]; exact fun _ => hbig)] at hcut
      by_cases hct : (s.size : Int) - (p : Int) < (n : Int)
      · have e : tkT s a = (⟨#[]⟩, 0, 21) := by unfold tkT; rw [hcut]; simp only [if_pos]; rw [if_pos hct]
        rw [e]
        clear hr hcut
        go_enter Try.func27, Try.ntmps27
        go_wp2_with (go_at_call 26; refine hc.mono ?_; rintro e w' ⟨rfl, rfl⟩)
        go_ret3
        exact ⟨rfl, rfl⟩
      · have e : tkT s a = (s.extract p (p + n), ((p + n : Nat) : Int), 0) := by unfold tkT; rw [hcut]; simp only [if_pos]; rw [if_neg hct]; simp
        rw [e]
        clear hr hcut
        have hsl : ∀ W : World, (Instr.slice 9 (.string s) (some (.int .i64 (p : Int))) (some (.int .i64 ((p : Int) + (n : Int)))) none).run Try.prog W = .ok (.string (s.extract p (p + n))) W := fun W => slice_ok Try.underlying9 s p n W (by omega)
        go_enter Try.func27, Try.ntmps27
        go_wp2_with (go_at_call 26; refine hc.mono ?_; rintro e w' ⟨rfl, rfl⟩)
        go_ret3
        exact ⟨rfl, rfl⟩
  · rw [hr] at hc hcut
    simp only at hc hcut
    rw [if_neg (by omega)] at hcut
    have e : tkT s a = (⟨#[]⟩, 0, er) := by
      unfold tkT; rw [hcut]; simp only; rw [if_neg (by omega)]
    rw [e]
    clear hr hcut
    have hne : (er != 0) = true := by simp; omega
    go_enter Try.func27, Try.ntmps27
    go_wp2_with (go_at_call 26; refine hc.mono ?_; rintro e w' ⟨rfl, rfl⟩)
    go_ret3
    exact ⟨rfl, rfl⟩

end Go.Proofs.Ytgceileakcjmdaa.pk
