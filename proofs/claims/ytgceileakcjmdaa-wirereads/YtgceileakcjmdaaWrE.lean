/-
  The contracts of take and takeNums.
-/
import Derived.Test.YtgceileakcjmdaaWrD
namespace Go.Proofs.Ytgceileakcjmdaa
open Go.ChangeShapes Go.WideShapes Go.ChangeAt Go.RowKit Go.PlainAid

/-- A message with one field set. -/
def MsD.set (m : MsD) (f : Nat) (x : Int) : MsD :=
  match f with
  | 0 => { m with k := x }
  | 1 => { m with b := x }
  | 2 => { m with c := x }
  | 3 => { m with s := x }
  | 4 => { m with r := x }
  | 5 => { m with y := x }
  | _ => m
theorem mb_set {W : World} {p : Nat} {m : MsD} {v : Value} (h : MB W p m v) (f : Nat) (hf : f ≤ 5) (x : Int) : MB (W.setCell ⟨p, f, none⟩ (.int .i64 x)) p (m.set f x) v := by
  have h1 := heap_setCell h f (.int .i64 x)
  match f, hf with
  | 0, _ => exact h1
  | 1, _ => exact h1
  | 2, _ => exact h1
  | 3, _ => exact h1
  | 4, _ => exact h1
  | 5, _ => exact h1

/-- The greatest number of pack. -/
abbrev big : Int := 1125899906842624
/-- What take reads: fields one behind the other. -/
def tkF (s : ByteArray) : List Nat → MsD → Int → MsD × Int × Bool
  | [], m, a => (m, a, true)
  | f :: fs, m, a => if (pk.tk s a big).2.2 = 0 then tkF s fs (m.set f (pk.tk s a big).1) (pk.tk s a big).2.1 else (m.set f (pk.tk s a big).1, 0, false)
theorem ret_tk {a b : Int} {x y : Bool} (h1 : a = b) (h2 : x = y) : Ending.returned (.tuple #[.int .i64 a, .bool x]) = .returned (.tuple #[.int .i64 b, .bool y]) := by rw [h1, h2]

set_option maxRecDepth 20000 in
set_option maxHeartbeats 1000000 in
theorem take_any (base p : Nat) (u v : Value) (m : MsD) (fs : List Nat) (s : ByteArray) (a : Int) (w : World) (hs : s.size ≤ maxLen) (hbp : base ≤ p) (hM : MB w p m v) (hf : ∀ f ∈ fs, f ≤ 5) (hl : fs.length ≤ 10)
    (hu : w.ownsRow base 42 1 u fs.length (ptV p fs)) :
    Calls Try.prog 46 #[.string s, .int .i64 a, u] w fun e w' => e = .returned (.tuple #[.int .i64 (tkF s fs m a).2.1, .bool (tkF s fs m a).2.2]) ∧ MB w' p (tkF s fs m a).1 v ∧ Below base w w' := by
  obtain ⟨ao, cp, rfl⟩ := own_form hu
  have hp := heap_lt hM
  go_enter Try.func46, Try.ntmps46
  go_wp2
  go_loopw [1, 13] (fun x i wr => ∃ (k : Nat) (m' : MsD) (a' : Int), k ≤ fs.length ∧ x = .int .i64 a' ∧ i = .int .i64 (k : Int) ∧ tkF s fs m a = tkF s (fs.drop k) m' a' ∧ MB wr p m' v ∧ wr.ownsRow base 42 1 (.slice ao fs.length cp) fs.length (ptV p fs) ∧ Below base w wr) (fun _ i _ => fs.length - (intOf i).toNat)
  case atStart => exact ⟨0, m, a, by omega, rfl, rfl, rfl, hM, hu, Below.refl _ _⟩
  case round =>
    obtain ⟨k, m', a', hk, rfl, rfl, hE, hM', hu', hbl⟩ := hrel
    have HE : Hid (tkF s fs m a = tkF s (fs.drop k) m' a') := hE
    clear hM hu hE
    by_cases hlt : k < fs.length
    · have hlt' : (k : Int) < (fs.length : Int) := by omega
      have c0 : ∃ g, ao = some ⟨g, 0, none⟩ ∧ wr.cell? ⟨g, k, none⟩ = some (.pointer (some ⟨p, fs[k], none⟩)) := by
        rcases hu'.2 with ⟨e, h⟩ | ⟨g, cap, cur, e, -⟩
        · omega
        · injection e with e1 e2 e3
          subst e1
          refine ⟨g, rfl, ?_⟩
          have := hu'.cells (g := g) rfl k (.pointer (some ⟨p, fs[k], none⟩)) (by simp [ptV, hlt])
          rw [addr_add, Nat.zero_add] at this
          exact this
      obtain ⟨g, rfl, c0⟩ := c0
      have hD : fs.drop k = fs[k] :: fs.drop (k + 1) := List.drop_eq_getElem_cons hlt
      have hf5 := hf fs[k] (List.getElem_mem hlt)
      have H1 : Hid ((pk.tk s a' big).2.2 = 0 → tkF s fs m a = tkF s (fs.drop (k + 1)) (m'.set fs[k] (pk.tk s a' big).1) (pk.tk s a' big).2.1) := fun h0 => by rw [HE.out, hD, tkF, if_pos h0]
      have H2 : Hid ((pk.tk s a' big).2.2 ≠ 0 → tkF s fs m a = (m'.set fs[k] (pk.tk s a' big).1, 0, false)) := fun h0 => by rw [HE.out, hD, tkF, if_neg h0]
      have ht := pk.takeNum_any s a' wr hs
      have cf := hM'.cell fs[k] hf5
      have hz := frz hM' fs[k]
      have hM2 := mb_set hM' fs[k] hf5 (pk.tk s a' big).1
      have hu2 := own_set (j := fs[k]) (x := .int .i64 (pk.tk s a' big).1) hu' hM' (by decide)
      have hw := hM'
      have hpp := heap_lt hM'
      have hb2 : Below base w (wr.setCell ⟨p, fs[k], none⟩ (.int .i64 (pk.tk s a' big).1)) := below_set hbl hbp (by omega)
      clear hD HE hM' hu' hw
      generalize fs[k] = f at *
      generalize pk.tk s a' big = R at *
      obtain ⟨r1, r2, r3⟩ := R
      simp only at ht H1 H2 hM2 hu2 hb2
      by_cases h0 : r3 = 0
      · subst h0
        have H3 := H1.out rfl
        have H4 : Hid (tkF s fs m a = tkF s (fs.drop (k + 1)) (m'.set f r1) r2) := H3
        clear H1 H2 H3
        go_wp2_with fail
        refine ht.mono ?_
        rintro e w1 ⟨rfl, rfl⟩
        clear ht
        go_wp2_with fail
        go_roundw
        case rel => exact ⟨k + 1, _, _, by omega, rfl, by go_num, H4.out, hM2, hu2, hb2⟩
        case measure => simp [intOf]; omega
      · have H3 := H2.out h0
        have H4 : Hid (tkF s fs m a = (m'.set f r1, 0, false)) := H3
        clear H1 H2 H3
        go_wp2_with fail
        refine ht.mono ?_
        rintro e w1 ⟨rfl, rfl⟩
        clear ht
        go_wp2_with fail
        go_ret2
        rw [H4.out]
        exact ⟨rfl, hM2, hb2⟩
    · have e : k = fs.length := by omega
      subst e
      have H4 : Hid (tkF s fs m a = (m', a', true)) := by show _ = _; rw [HE.out, List.drop_length]; rfl
      clear HE
      go_wp2
      go_ret2
      rw [H4.out]
      exact ⟨rfl, hM', hbl⟩
end Go.Proofs.Ytgceileakcjmdaa
