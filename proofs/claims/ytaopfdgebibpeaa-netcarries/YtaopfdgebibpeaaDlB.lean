/-
  The contracts of lengths and stepsOf, Check, Base and Target.
-/
import Derived.Test.YtaopfdgebibpeaaDlA
namespace Go.Proofs.Ytaopfdgebibpeaa
open Go.ChangeShapes Go.WideShapes Go.ChangeAt Go.RowKit Go.PlainAid

/-- The slice v reads as these values, one a cell. -/
def RdV (w : World) (v : Value) (xs : List Value) : Prop :=
  ∃ ao cp, v = .slice ao xs.length cp ∧ ∀ (i : Nat) (x : Value), xs[i]? = some x → ∃ b off, ao = some ⟨b, off, none⟩ ∧ b < w.heap.size ∧ w.cell? ⟨b, off + i, none⟩ = some x

theorem RdV.below {w w' : World} {v : Value} {l : List Value} (h : RdV w v l) (hb : Below w.heap.size w w') : RdV w' v l := by
  obtain ⟨ao, cp, e, h1⟩ := h
  refine ⟨ao, cp, e, fun i o hi => ?_⟩
  obtain ⟨b, off, e1, hl, c0⟩ := h1 i o hi
  exact ⟨b, off, e1, Nat.lt_of_lt_of_le hl hb.size, (hb.cell (p := ⟨b, off + i, none⟩) hl).trans c0⟩
theorem rdv_own {w : World} {base e : Nat} {v : Value} {xs : List Value} {n : Nat} (h : w.ownsRow base e 1 v n xs) : RdV w v xs := by
  have hl := h.1
  rcases h.2 with ⟨rfl, h0⟩ | ⟨g, cap, cur, rfl, hb, hg, hn, _, hc, ht⟩
  · subst h0
    have : xs = [] := List.eq_nil_of_length_eq_zero (by omega)
    subst this
    exact ⟨none, 0, rfl, fun i x h => by simp at h⟩
  · refine ⟨_, cap, by rw [hl, Nat.mul_one], fun i x hx => ⟨g, 0, rfl, ?_, ?_⟩⟩
    · exact (h.lt g rfl).2
    · have := h.cells (g := g) rfl i x hx
      have hadd : (⟨g, 0, none⟩ : Addr).add i = ⟨g, 0 + i, none⟩ := by unfold Addr.add; split <;> simp_all
      rw [hadd] at this
      exact this

def St.b : St → Nat
  | .keep n => n
  | .rem n => n
  | .ins _ => 0
def St.c : St → Nat
  | .keep n => n
  | .rem _ => 0
  | .ins t => (cpl t).toNat
def bsum (l : List St) : Nat := (l.map St.b).sum
def tsum (l : List St) : Nat := (l.map St.c).sum
def sv (l : List St) : List Value := l.map St.val
/-- A step that may be. -/
def St.Ok : St → Prop
  | .keep n => 1 ≤ n ∧ n ≤ 1000
  | .rem n => 1 ≤ n ∧ n ≤ 1000
  | .ins t => 0 < cpl t ∧ t.size ≤ 140737488355328

theorem sv_length (l : List St) : (sv l).length = l.length := by simp [sv]
theorem sv_append (a b : List St) : sv (a ++ b) = sv a ++ sv b := by simp [sv]
theorem bsum_append (a b : List St) : bsum (a ++ b) = bsum a + bsum b := by simp [bsum]
theorem tsum_append (a b : List St) : tsum (a ++ b) = tsum a + tsum b := by simp [tsum]
theorem bsum_take (l : List St) (k : Nat) (h : k < l.length) : bsum (l.take (k + 1)) = bsum (l.take k) + (l[k]).b := by
  rw [List.take_succ_eq_append_getElem h, bsum_append]; simp [bsum]
theorem tsum_take (l : List St) (k : Nat) (h : k < l.length) : tsum (l.take (k + 1)) = tsum (l.take k) + (l[k]).c := by
  rw [List.take_succ_eq_append_getElem h, tsum_append]; simp [tsum]
theorem st_bd {s : St} (h : s.Ok) : s.b ≤ 1000 ∧ s.c ≤ 140737488355328 := by
  cases s with
  | keep n => simp [St.Ok] at h; simp [St.b, St.c]; omega
  | rem n => simp [St.Ok] at h; simp [St.b, St.c]; omega
  | ins t => simp [St.Ok] at h; have := cpl_le t; simp [St.b, St.c]; omega
theorem sum_bd : ∀ (l : List St), (∀ s ∈ l, s.Ok) → bsum l ≤ 1000 * l.length ∧ tsum l ≤ 140737488355328 * l.length
  | [], _ => by simp [bsum, tsum]
  | s :: l, h => by
    have h1 := st_bd (h s (by simp))
    have h2 := sum_bd l (fun x hx => h x (by simp [hx]))
    have e1 : bsum (s :: l) = s.b + bsum l := by simp [bsum]
    have e2 : tsum (s :: l) = s.c + tsum l := by simp [tsum]
    rw [e1, e2, List.length_cons]
    omega
theorem ok_take {l : List St} (h : ∀ s ∈ l, s.Ok) (k : Nat) : ∀ s ∈ l.take k, s.Ok := fun s hs => h s (List.mem_of_mem_take hs)

theorem ta_kk (v : Value) (W : World) : (Instr.typeAssert (.iface 96 v) 79 96 true).run Try.prog W = .ok (.tuple #[v, .bool true]) W := by kernel_rfl
theorem ta_rk (v : Value) (W : World) : (Instr.typeAssert (.iface 97 v) 79 96 true).run Try.prog W = .ok (.tuple #[.int .i64 0, .bool false]) W := by kernel_rfl
theorem ta_rr (v : Value) (W : World) : (Instr.typeAssert (.iface 97 v) 79 97 true).run Try.prog W = .ok (.tuple #[v, .bool true]) W := by kernel_rfl
theorem ta_ik (v : Value) (W : World) : (Instr.typeAssert (.iface 98 v) 79 96 true).run Try.prog W = .ok (.tuple #[.int .i64 0, .bool false]) W := by kernel_rfl
theorem ta_ir (v : Value) (W : World) : (Instr.typeAssert (.iface 98 v) 79 97 true).run Try.prog W = .ok (.tuple #[.int .i64 0, .bool false]) W := by kernel_rfl
theorem ta_ii (v : Value) (W : World) : (Instr.typeAssert (.iface 98 v) 79 98 true).run Try.prog W = .ok (.tuple #[v, .bool true]) W := by kernel_rfl

set_option maxRecDepth 20000 in
set_option maxHeartbeats 2000000 in
theorem lengths_any (v : Value) (l : List St) (w : World) (hr : RdV w v (sv l)) (hl : l.length ≤ 3000) (ho : ∀ s ∈ l, s.Ok) :
    Calls Try.prog 43 #[v] w fun e w' => e = .returned (.tuple #[.int .i64 (bsum l : Int), .int .i64 (tsum l : Int)]) ∧ w = w' := by
  obtain ⟨ao, cp, rfl, hc⟩ := hr
  rw [sv_length]
  have kk := ta_kk
  have rk := ta_rk
  have rr := ta_rr
  have ik := ta_ik
  have ir := ta_ir
  have ii := ta_ii
  go_enter Try.func43, Try.ntmps43
  go_wp2
  go_loop [2, 3, 11] (fun b t i => ∃ k : Nat, k ≤ l.length ∧ i = .int .i64 (k : Int) ∧ b = .int .i64 (bsum (l.take k) : Int) ∧ t = .int .i64 (tsum (l.take k) : Int)) (fun _ _ i => l.length - (intOf i).toNat)
  case atStart => exact ⟨0, by omega, rfl, rfl, rfl⟩
  case round =>
    obtain ⟨k, hk, rfl, rfl, rfl⟩ := hrel
    have hsb := sum_bd _ (ok_take ho k)
    have hkl : (l.take k).length ≤ 3000 := by rw [List.length_take]; omega
    have b1 : (bsum (l.take k) : Int) ≤ 3000000 := by omega
    have t1 : (tsum (l.take k) : Int) ≤ 422212465065984000 := by omega
    clear hsb hkl
    by_cases hlt : k < l.length
    · have hlt' : (k : Int) < (l.length : Int) := by omega
      have hsk := ho l[k] (List.getElem_mem hlt)
      have HB : Hid (bsum (l.take (k + 1)) = bsum (l.take k) + (l[k]).b ∧ tsum (l.take (k + 1)) = tsum (l.take k) + (l[k]).c) := ⟨bsum_take l k hlt, tsum_take l k hlt⟩
      obtain ⟨b, off, rfl, hbl, c0⟩ := hc k (l[k]).val (by simp [sv, hlt])
      generalize l[k] = s at hsk HB c0
      clear hc ho
      generalize bsum (l.take k) = B at *
      generalize tsum (l.take k) = T at *
      cases s with
      | keep n =>
        simp only [St.val, St.Ok, St.b, St.c] at c0 hsk HB
        have n1 : (n : Int) ≤ 1000 := by omega
        go_wp2
        go_round
        case rel => exact ⟨k + 1, by omega, by go_num, by rw [HB.out.1]; go_num, by rw [HB.out.2]; go_num⟩
        case measure => simp [intOf]; omega
      | rem n =>
        simp only [St.val, St.Ok, St.b, St.c] at c0 hsk HB
        have n1 : (n : Int) ≤ 1000 := by omega
        go_wp2
        go_round
        case rel => exact ⟨k + 1, by omega, by go_num, by rw [HB.out.1]; go_num, by rw [HB.out.2]; go_num⟩
        case measure => simp [intOf]; omega
      | ins t =>
        simp only [St.val, St.Ok, St.b, St.c] at c0 hsk HB
        have hL := len_any t w (by unfold maxLen; omega)
        have hcl := cpl_le t
        obtain ⟨n, hn⟩ := Int.eq_ofNat_of_zero_le (show 0 ≤ cpl t by omega)
        rw [hn] at hL
        have n1 : (n : Int) ≤ 140737488355328 := by omega
        rw [hn, Int.toNat_natCast] at HB
        clear hcl hsk hn
        go_wp2_with (go_at_call 49; refine hL.mono ?_; rintro e w1 ⟨rfl, rfl⟩)
        go_round
        case rel => exact ⟨k + 1, by omega, by go_num, by rw [HB.out.1]; go_num, by rw [HB.out.2]; go_num⟩
        case measure => simp [intOf]; omega
    · have e : k = l.length := by omega
      subst e
      rw [List.take_length]
      go_wp2
      go_ret2
      exact ⟨rfl, rfl⟩
end Go.Proofs.Ytaopfdgebibpeaa
