/-
  A shelf of one's own, as the statements meet it; pick, begun.
-/
import Derived.Test.YtkmdjhdininimaaShV
namespace Go.Proofs.Ytkmdjhdininimaa
open Go.RowKit Go.Maps

theorem mk_data (b : ByteArray) : Go.Proofs.Ytkmdjhdininimaa.mk b.data.toList = b := by simp [Go.Proofs.Ytkmdjhdininimaa.mk]
/-- A device of one's own. -/
structure ND (W0 W : World) (p bs bw : Nat) (s : DevS) : Prop where
  dev : IsDev W p bs bw s
  b : Below W0.heap.size W0 W
  lp : W0.heap.size ≤ p
  ls : W0.heap.size ≤ bs
  lw : W0.heap.size ≤ bw
/-- A shelf of one's own. -/
structure NS (W0 W : World) (q p bs bw : Nat) (s : DevS) (age : Int) (lost : Bool) : Prop extends ND W0 W p bs bw s where
  sh : SB W q p age lost
  lq : W0.heap.size ≤ q
/-- Where nothing went wrong, and no fuse is set: it tells t. -/
structure Lv (W0 W : World) (q p bs bw : Nat) (s : DevS) (t : List UInt8) : Prop extends NS W0 W q p bs bw s s.age false where
  fu : s.fuse = -1
  calm : s.keys = []
  says : Says s t

section
variable {W0 W W' : World} {q p bs bw : Nat} {s s' : DevS} {age : Int} {lost lost' : Bool} {t : List UInt8}
theorem ND.below (h : ND W0 W p bs bw s) (hb : Below W.heap.size W W') : ND W0 W' p bs bw s := ⟨h.dev.below hb, h.b.trans (hb.mono h.b.size), h.lp, h.ls, h.lw⟩
theorem ND.only {S : List Nat} (h : ND W0 W p bs bw s) (hd : IsDev W' p bs bw s') (ho : Only S W W') (hS : ∀ x ∈ S, W0.heap.size ≤ x) : ND W0 W' p bs bw s' := ⟨hd, h.b.trans (ho.below h.b.size hS), h.lp, h.ls, h.lw⟩
theorem NS.below (h : NS W0 W q p bs bw s age lost) (hb : Below W.heap.size W W') : NS W0 W' q p bs bw s age lost := ⟨h.toND.below hb, h.sh.below hb, h.lq⟩
theorem NS.all (h : NS W0 W q p bs bw s age lost) : ∀ x ∈ [p, bs, bw, q], W0.heap.size ≤ x := by
  have := h.lp; have := h.ls; have := h.lw; have := h.lq
  simp; omega
theorem NS.only (h : NS W0 W q p bs bw s age lost) (hd : IsDev W' p bs bw s') (hs : SB W' q p age lost') (ho : Only [p, bs, bw, q] W W') : NS W0 W' q p bs bw s' age lost' := ⟨h.toND.only hd ho h.all, hs, h.lq⟩
/-- What leaves its blocks alone leaves it. -/
theorem NS.kept {S : List Nat} (h : NS W0 W q p bs bw s age lost) (ho : Only S W W') (hb : Below W0.heap.size W0 W') (h1 : p ∉ S) (h2 : bs ∉ S) (h3 : bw ∉ S) (h4 : q ∉ S) : NS W0 W' q p bs bw s age lost := ⟨⟨h.dev.kept ho h1 h2 h3, hb, h.lp, h.ls, h.lw⟩, h.sh.only ho h4, h.lq⟩
theorem Lv.below (h : Lv W0 W q p bs bw s t) (hb : Below W.heap.size W W') : Lv W0 W' q p bs bw s t := ⟨h.toNS.below hb, h.fu, h.calm, h.says⟩
theorem Lv.kept {S : List Nat} (h : Lv W0 W q p bs bw s t) (ho : Only S W W') (hb : Below W0.heap.size W0 W') (h1 : p ∉ S) (h2 : bs ∉ S) (h3 : bw ∉ S) (h4 : q ∉ S) : Lv W0 W' q p bs bw s t := ⟨h.toNS.kept ho hb h1 h2 h3 h4, h.fu, h.calm, h.says⟩
theorem up_inf (h : s.fuse = -1) : s.up = true := by unfold DevS.up; rw [h]; rfl
theorem rdy_live : rdy s s.age false = s.up := by unfold rdy; simp
theorem Lv.rdy (h : Lv W0 W q p bs bw s t) : rdy s s.age false = true := by rw [rdy_live]; exact up_inf h.fu
theorem rmE_ok {n : Nat} (h : n ≤ s.room) : s.rmE n = 0 := by
  have := room_le s
  unfold DevS.rmE
  rw [if_neg (by omega), if_neg (by omega)]
theorem putE_live {l : List UInt8} (hr : Go.Proofs.Ytkmdjhdininimaa.rdy s age lost = true) (h : l.length ≤ s.room) : putE s age lost l = repS s l := by unfold putE; rw [if_pos hr, if_pos (rmE_ok h)]
theorem newS_keys (n : Nat) : (newS n).keys = [] := keysF_none _
theorem newS_emp (n : Nat) : (newS n).emp = true := by
  unfold DevS.emp
  rw [newS_keys]
  simp only [List.isEmpty_nil, Bool.true_and, List.all_eq_true]
  intro i _
  show (zeroS == zeroS) = true
  simp

set_option maxRecDepth 20000 in
set_option maxHeartbeats 1000000 in
theorem put_dead {w : World} (h : IsDev w p bs bw s) (hs : SB w q p age lost) (hr : Go.Proofs.Ytkmdjhdininimaa.rdy s age lost = false) (x : ByteArray) :
    Calls Try.prog 24 #[.pointer (some ⟨q, 0, none⟩), .string x] w fun e w' => e = .returned (.int .i64 3) ∧ IsDev w' p bs bw s ∧ SB w' q p age true ∧ Only [p, bs, bw, q] w w' := by
  have hmf : ∀ (fn : Fn) (first cap : Array Value) (w : World), (Instr.makeFunc fn first cap).run Try.prog w = .ok (.func fn first cap) w := fun _ _ _ _ => rfl
  have hap := hs.apart h
  have hA : Below w.heap.size w ((w.alloc (.cells #[.pointer (some ⟨q, 0, none⟩)] 32)).alloc (.cells #[.int .i64 0] 24)) := ((Below.refl _ w).alloc (Nat.le_refl _) _).alloc (by simp) _
  have hg := (Below.heap_alloc (w.alloc (.cells #[.pointer (some ⟨q, 0, none⟩)] 32)) (.cells #[.int .i64 0] 24) w.heap.size (by simp)).trans (heap_alloc_last w (.cells #[.pointer (some ⟨q, 0, none⟩)] 32))
  have he := heap_alloc_last (w.alloc (.cells #[.pointer (some ⟨q, 0, none⟩)] 32)) (.cells #[.int .i64 0] 24)
  rw [World.size_alloc] at he
  have hlt : p < w.heap.size ∧ bs < w.heap.size ∧ bw < w.heap.size := ⟨h.ltp, h.lts, h.ltw⟩
  have hq := heap_lt hs
  have d0 := cell_at hg 0
  simp at d0
  have c1 := must_ready (h.below hA) (hs.below hA)
  rw [hr, if_neg (by simp)] at c1
  unfold thr at c1
  go_enter_defers Try.func24, Try.ntmps24
  go_wp2_with (go_at_call 38; refine c1.mono ?_; rintro e w2 ⟨rfl, hb2⟩)
  have hB2 := chainS hA hb2
  have hg2 := (hb2.block _ (heap_lt hg)).trans hg
  have he2 := (hb2.block (w.heap.size + 1) (by simp)).trans he
  refine leaves_cons (f := 47) (args := #[.pointer (some ⟨w.heap.size + 1, 0, none⟩), .pointer (some ⟨w.heap.size, 0, none⟩)]) (by simp) (by simp [go_sem]) ?_
  refine (put_catch (hs.below hB2) 3 0 he2 hg2 (by omega) []).mono ?_
  rintro e u' w5 ⟨rfl, rfl, hc5, hs5, ho5⟩
  have hF : IsDev w5 p bs bw s ∧ SB w5 q p age true ∧ Only [p, bs, bw, q] w w5 := by
    simp at hap
    refine ⟨(h.below hB2).kept ho5 (by simp; omega) (by simp; omega) (by simp; omega), by simpa using hs5, ⟨ho5.os.trans hB2.os, ho5.tape.trans hB2.tape, ho5.output.trans hB2.output, Nat.le_trans hB2.size ho5.size, fun i hi hn => ?_⟩⟩
    have s1 := hB2.size
    simp at hn
    rw [ho5.block i (by omega) (by simp; omega)]
    exact hB2.block i hi
  simp [Leaves, settle, results, Try.results24, go_sem, hc5]
  exact hF

theorem ndev_any (W0 w : World) (hB : Below W0.heap.size W0 w) (n : Nat) (h0 : 8 ≤ n) (h1 : n ≤ 8192) :
    Calls Try.prog 9 #[.int .i64 (n : Int)] w fun e w' => ∃ p bs bw, e = .returned (.tuple #[.pointer (some ⟨p, 0, none⟩), .int .i64 0]) ∧ ND W0 w' p bs bw (newS n) ∧ (w.heap.size ≤ p ∧ w.heap.size ≤ bs ∧ w.heap.size ≤ bw) ∧ Below w.heap.size w w' :=
  (new_ok n w h0 h1).mono fun _ _ ⟨h1, h2, h3⟩ => ⟨_, _, _, h1, ⟨h2, hB.trans (h3.mono hB.size), by have := hB.size; omega, hB.size, by have := hB.size; omega⟩, ⟨by omega, by omega, by omega⟩, h3⟩
theorem lv_new {n : Nat} (h : ND W0 W p bs bw (newS n)) : Calls Try.prog 14 #[.pointer (some ⟨p, 0, none⟩)] W fun e w' => ∃ q, e = .returned (.tuple #[.pointer (some ⟨q, 0, none⟩), .int .i64 0]) ∧ Lv W0 w' q p bs bw (newS n) [] ∧ W.heap.size ≤ q ∧ Below W.heap.size W w' :=
  (snew_ok h.dev rfl (newS_emp n)).mono fun _ _ ⟨q, h1, h2, h3, h4⟩ => ⟨q, h1, ⟨⟨h.below h4, h3, Nat.le_trans h.b.size h2⟩, rfl, newS_keys n, says_newS n⟩, h2, h4⟩
theorem nput_any (h : NS W0 W q p bs bw s age lost) (hk : HdOk s (s.readAt 0)) (l : List UInt8) : Calls Try.prog 24 #[.pointer (some ⟨q, 0, none⟩), .string (Go.Proofs.Ytkmdjhdininimaa.mk l)] W fun e w' =>
    e = .returned (.int .i64 (putE s age lost l).1) ∧ NS W0 w' q p bs bw (putE s age lost l).2 age (lost || decide ((putE s age lost l).1 = 3)) ∧ Only [p, bs, bw, q] W w' := by
  by_cases hE : (putE s age lost l).1 = 0
  · refine (put_ok h.dev h.sh hk l hE).mono fun e w' ⟨h1, h2, h3, h4⟩ => ⟨by rw [h1, hE], ?_, h4.mono (by simp)⟩
    have h5 : (lost || decide ((putE s age lost l).1 = 3)) = lost := by rw [hE]; simp
    rw [h5]
    exact h.only h2 h3 (h4.mono (by simp))
  · exact (put_no h.dev h.sh hk l hE).mono fun e w' ⟨h1, h2, h3, h4⟩ => ⟨h1, h.only h2 h3 h4, h4⟩
/-- A Put that goes on, whatever becomes of it. -/
theorem nput_live (h : NS W0 W q p bs bw s s.age false) (hu : s.up = true) (hk : s.keys = []) (ht : Says s t) (l : List UInt8) (hl : l.length ≤ s.room) : Calls Try.prog 24 #[.pointer (some ⟨q, 0, none⟩), .string (Go.Proofs.Ytkmdjhdininimaa.mk l)] W fun e w' => ∃ s', s'.n = s.n ∧ s'.age = s.age ∧ Only [p, bs, bw, q] W w' ∧
    ((e = .returned (.int .i64 0) ∧ NS W0 w' q p bs bw s' s.age false ∧ (s.fuse = -1 → s'.fuse = -1) ∧ s'.keys = [] ∧ Says s' l) ∨
     (e = .returned (.int .i64 3) ∧ NS W0 w' q p bs bw s' s.age true ∧ s'.up = false ∧ s.fuse ≠ -1 ∧ ∀ m, Says (s'.crashed m) t ∨ Says (s'.crashed m) l)) := by
  refine (nput_any h ht.hd l).mono fun e w' ⟨h1, h2, h3⟩ => ?_
  rw [putE_live (by rw [rdy_live]; exact hu) hl] at h1 h2
  have R := repS_any ht hk h.dev.lo hl
  refine ⟨(repS s l).2, R.n, R.age, h3, ?_⟩
  rcases R.end_ with ⟨e1, e2, e3, e4⟩ | ⟨e1, e2, e3, e4⟩
  · rw [e1] at h1 h2
    exact .inl ⟨h1, h2, e2, e3, e4⟩
  · rw [e1] at h1 h2
    exact .inr ⟨h1, h2, e2, e3, e4⟩
theorem lv_put (h : Lv W0 W q p bs bw s t) (l : List UInt8) (hl : l.length ≤ s.room) : Calls Try.prog 24 #[.pointer (some ⟨q, 0, none⟩), .string (Go.Proofs.Ytkmdjhdininimaa.mk l)] W fun e w' => ∃ s', e = .returned (.int .i64 0) ∧ s'.n = s.n ∧ Lv W0 w' q p bs bw s' l ∧ Only [p, bs, bw, q] W w' := by
  refine (nput_live h.toNS (up_inf h.fu) h.calm h.says l hl).mono fun e w' ⟨s', h1, h2, h3, h4⟩ => ?_
  rcases h4 with ⟨e1, e2, e3, e4, e5⟩ | ⟨_, _, _, e4, _⟩
  · exact ⟨s', e1, h1, ⟨by rw [h2]; exact e2, e3 h.fu, e4, e5⟩, h3⟩
  · exact absurd h.fu e4
theorem nget_ok (h : NS W0 W q p bs bw s age lost) (hr : Go.Proofs.Ytkmdjhdininimaa.rdy s age lost = true) (ht : Says s t) : Calls Try.prog 17 #[.pointer (some ⟨q, 0, none⟩)] W fun e w' => e = .returned (.string (Go.Proofs.Ytkmdjhdininimaa.mk t)) ∧ NS W0 w' q p bs bw s age lost ∧ Below W.heap.size W w' :=
  (get_ok h.dev h.sh hr ht.hd).mono fun _ _ ⟨h1, h2⟩ => ⟨by rw [h1, ht.tx], h.below h2, h2⟩
theorem lv_get (h : Lv W0 W q p bs bw s t) : Calls Try.prog 17 #[.pointer (some ⟨q, 0, none⟩)] W fun e w' => e = .returned (.string (Go.Proofs.Ytkmdjhdininimaa.mk t)) ∧ Lv W0 w' q p bs bw s t ∧ Below W.heap.size W w' :=
  (nget_ok h.toNS h.rdy h.says).mono fun _ _ ⟨h1, _, h3⟩ => ⟨h1, h.below h3, h3⟩
theorem nget_no (h : NS W0 W q p bs bw s age lost) (hr : Go.Proofs.Ytkmdjhdininimaa.rdy s age lost = false) : Calls Try.prog 17 #[.pointer (some ⟨q, 0, none⟩)] W fun e w' => e = .returned (.string ⟨#[]⟩) ∧ NS W0 w' q p bs bw s age true ∧ Only [q] W w' :=
  (get_no h.dev h.sh hr).mono fun _ _ ⟨h1, h2, h3, h4⟩ => ⟨h1, h.only h2 h3 (h4.mono (by simp)), h4⟩
theorem nput_dead (h : NS W0 W q p bs bw s age lost) (hr : Go.Proofs.Ytkmdjhdininimaa.rdy s age lost = false) (x : ByteArray) : Calls Try.prog 24 #[.pointer (some ⟨q, 0, none⟩), .string x] W fun e w' => e = .returned (.int .i64 3) ∧ NS W0 w' q p bs bw s age true :=
  (put_dead h.dev h.sh hr x).mono fun _ _ ⟨h1, h2, h3, h4⟩ => ⟨h1, h.only h2 h3 h4⟩
theorem nroom_any (h : NS W0 W q p bs bw s age lost) : Calls Try.prog 18 #[.pointer (some ⟨q, 0, none⟩)] W fun e w' => e = .returned (.int .i64 (if Go.Proofs.Ytkmdjhdininimaa.rdy s age lost = true then (s.room : Int) else 0)) ∧ NS W0 w' q p bs bw s age (lost || !Go.Proofs.Ytkmdjhdininimaa.rdy s age lost) ∧ Only [q] W w' :=
  (sroom_any h.dev h.sh).mono fun _ _ ⟨h1, h2, h3, h4⟩ => ⟨h1, h.only h2 h3 (h4.mono (by simp)), h4⟩
theorem lv_room (h : Lv W0 W q p bs bw s t) : Calls Try.prog 18 #[.pointer (some ⟨q, 0, none⟩)] W fun e w' => e = .returned (.int .i64 (s.room : Int)) ∧ Lv W0 w' q p bs bw s t ∧ Only [q] W w' :=
  (nroom_any h.toNS).mono fun _ _ ⟨h1, h2, h3⟩ => by
    rw [h.rdy] at h1 h2
    exact ⟨by rw [h1, if_pos rfl], ⟨by simpa using h2, h.fu, h.calm, h.says⟩, h3⟩
theorem lv_dev (h : Lv W0 W q p bs bw s t) : Calls Try.prog 27 #[.pointer (some ⟨q, 0, none⟩)] W fun e w' => e = .returned (.pointer (some ⟨p, 0, none⟩)) ∧ Lv W0 w' q p bs bw s t ∧ Only [q] W w' :=
  (sdev_any h.dev h.sh).mono fun _ _ ⟨h1, h2, h3, h4⟩ => by
    rw [h.rdy] at h3
    exact ⟨h1, ⟨h.toNS.only h2 (by simpa using h3) (h4.mono (by simp)), h.fu, h.calm, h.says⟩, h4⟩
/-- At rest: what a crash leaves. -/
structure Rst (W0 W : World) (p bs bw : Nat) (s : DevS) (t : List UInt8) : Prop extends ND W0 W p bs bw s where
  calm : s.keys = []
  says : Says s t
theorem nopen_up (h : Rst W0 W p bs bw s t) (hu : s.up = true) : Calls Try.prog 15 #[.pointer (some ⟨p, 0, none⟩)] W fun e w' => ∃ q, e = .returned (.tuple #[.pointer (some ⟨q, 0, none⟩), .int .i64 0]) ∧ NS W0 w' q p bs bw s s.age false ∧ W.heap.size ≤ q ∧ Only [p, bs, bw] W w' := by
  refine (sopen_ok h.dev hu h.says.hd).mono fun e w' ⟨h1, h2, h3⟩ => ?_
  rw [settle_calm h.calm] at h1 h3
  rw [if_pos hu] at h3
  obtain ⟨q, e1, e2, e3⟩ := h3
  exact ⟨q, e1, ⟨h.toND.only h1 h2 (by have := h.lp; have := h.ls; have := h.lw; simp; omega), e3, Nat.le_trans h.b.size e2⟩, e2, h2⟩
theorem lv_open (h : Rst W0 W p bs bw s t) (hf : s.fuse = -1) : Calls Try.prog 15 #[.pointer (some ⟨p, 0, none⟩)] W fun e w' => ∃ q, e = .returned (.tuple #[.pointer (some ⟨q, 0, none⟩), .int .i64 0]) ∧ Lv W0 w' q p bs bw s t ∧ W.heap.size ≤ q ∧ Only [p, bs, bw] W w' :=
  (nopen_up h (up_inf hf)).mono fun _ _ ⟨q, h1, h2, h3, h4⟩ => ⟨q, h1, ⟨h2, hf, h.calm, h.says⟩, h3, h4⟩
theorem nopen_down (h : ND W0 W p bs bw s) (hu : s.up = false) : Calls Try.prog 15 #[.pointer (some ⟨p, 0, none⟩)] W fun e w' => e = .returned (.tuple #[.pointer none, .int .i64 3]) ∧ ND W0 w' p bs bw s :=
  (sopen_down h.dev hu).mono fun _ _ ⟨h1, h2⟩ => ⟨h1, h.below h2⟩
theorem ncrash_any (h : ND W0 W p bs bw s) (x : ByteArray) (hx : x.size ≤ maxLen) : Calls Try.prog 25 #[.pointer (some ⟨p, 0, none⟩), .string x] W fun e w' => (∃ k : Int, e = .returned (.int .i64 k)) ∧ ND W0 w' p bs bw (s.crashed x.data.toList) ∧ Only [p, bs, bw] W w' :=
  (crash_any h.dev x hx).mono fun _ _ ⟨h1, h2, h3⟩ => ⟨⟨_, h1⟩, h.only h2 h3 (by have := h.lp; have := h.ls; have := h.lw; simp; omega), h3⟩
theorem rst_crash {m : List UInt8} (h : ND W0 W p bs bw (s.crashed m)) (hs : Says (s.crashed m) t) : Rst W0 W p bs bw (s.crashed m) t := ⟨h, crash_keys m, hs⟩
theorem Lv.crash (h : Lv W0 W q p bs bw s t) (m : List UInt8) : Says (s.crashed m) t := h.says.crash h.calm h.dev.lo m
theorem Lv.rst (h : Lv W0 W q p bs bw s t) : Rst W0 W p bs bw s t := ⟨h.toND, h.calm, h.says⟩
end

theorem ret_int {k : IntKind} {a b : Int} (h : a = b) : Ending.returned (.int k a) = .returned (.int k b) := by rw [h]
/-- pick: a number below n. -/
def pickI (c n : Int) : Int := (if c < 0 then -(c + 1) else c) % n
theorem pickI_bd (c n : Int) (hn : 0 < n) : 0 ≤ pickI c n ∧ pickI c n < n := by
  unfold pickI
  exact ⟨Int.emod_nonneg _ (by omega), Int.emod_lt_of_pos _ hn⟩
set_option maxHeartbeats 400000 in
theorem pick_any (c n : Int) (w : World) (h0 : -9223372036854775808 ≤ c) (h1 : c ≤ 9223372036854775807) (hn : 0 < n) (hn1 : n ≤ 9223372036854775807) :
    Calls Try.prog 8 #[.int .i64 c, .int .i64 n] w fun e w' => e = .returned (.int .i64 (pickI c n)) ∧ w' = w := by
  by_cases hc : c < 0
  · have e : pickI c n = -(c + 1) % n := by simp [pickI, hc]
    rw [e]
    clear e
    have h2 : 0 ≤ -(c + 1) := by omega
    go_enter Try.func8, Try.ntmps8
    go_wp2
    go_ret
    exact ⟨ret_int (by rw [← Int.neg_tmod, Int.tmod_eq_emod_of_nonneg h2]), rfl⟩
  · have e : pickI c n = c % n := by simp [pickI, hc]
    rw [e]
    clear e
    have h2 : 0 ≤ c := by omega
    go_enter Try.func8, Try.ntmps8
    go_wp2
    go_ret
    exact ⟨rfl, rfl⟩

theorem Try.sizeDv : (Try.prog.info? 60).map (·.size) = some 5 := by kernel_rfl
theorem neq_dev (W : World) (b : Nat) : (binOp .neq 23 (.pointer (some ⟨b, 0, none⟩)) (.pointer (some ⟨b, 0, none⟩))).run Try.prog W = .ok (.bool false) W := by
  cases hj : Try.prog.info? 60 with
  | none => have := Try.sizeDv; rw [hj] at this; simp at this
  | some j => exact Lib.run_neq_ptr_same W ⟨b, 0, none⟩ Try.underlying23 hj
theorem room40 {s : DevS} (h : s.n = 40) : s.room = 1216 := by unfold DevS.room DevS.each; rw [h]; rfl
set_option maxRecDepth 20000 in
set_option maxHeartbeats 1000000 in
theorem begun_any (w : World) : Calls Try.prog 10 #[] w fun e w' => e = .returned (.bool true) ∧ Below w.heap.size w w' := by
  have cN : Calls Try.prog 9 #[.int .i64 40] w _ := ndev_any w w (Below.refl _ _) 40 (by decide) (by decide)
  go_enter Try.func10, Try.ntmps10
  go_wp2_with fail
  refine cN.mono ?_
  rintro e w1 ⟨p, bs, bw, rfl, hD1, -, -⟩
  clear cN
  have cW := lv_new hD1
  go_wp2_with fail
  refine cW.mono ?_
  rintro e w2 ⟨q, rfl, hL2, -, -⟩
  clear cW hD1
  have cG : Calls Try.prog 17 #[.pointer (some ⟨q, 0, none⟩)] w2 fun e w' => e = .returned (.string ⟨#[]⟩) ∧ _ := lv_get hL2
  go_wp2_with fail
  refine cG.mono ?_
  rintro e w3 ⟨rfl, hL3, -⟩
  clear cG hL2
  have cR := lv_room hL3
  rw [room40 rfl] at cR
  go_wp2_with fail
  refine cR.mono ?_
  rintro e w4 ⟨rfl, hL4, -⟩
  clear cR hL3
  have cD := lv_dev hL4
  go_wp2_with fail
  refine cD.mono ?_
  rintro e w5 ⟨rfl, hL5, -⟩
  clear cD hL4
  have hne := neq_dev w5 p
  have cP : Calls Try.prog 24 #[.pointer (some ⟨q, 0, none⟩), .string ⟨#[97]⟩] w5 _ := lv_put hL5 [97] (by rw [room40 rfl]; decide)
  go_wp2_with fail
  refine cP.mono ?_
  rintro e w6 ⟨s6, rfl, hn6, hL6, -⟩
  clear cP hL5
  have cC := ncrash_any hL6.toND ⟨#[]⟩ (by decide)
  have hs7 := hL6.crash []
  go_wp2_with fail
  refine cC.mono ?_
  rintro e w7 ⟨⟨k7, rfl⟩, hD7, -⟩
  clear cC hL6
  have cO := lv_open (rst_crash hD7 hs7) rfl
  clear hD7 hs7
  go_wp2_with fail
  refine cO.mono ?_
  rintro e w8 ⟨q8, rfl, hL8, -, -⟩
  clear cO
  have cG : Calls Try.prog 17 #[.pointer (some ⟨q8, 0, none⟩)] w8 fun e w' => e = .returned (.string ⟨#[97]⟩) ∧ _ := lv_get hL8
  go_wp2_with fail
  refine cG.mono ?_
  rintro e w9 ⟨rfl, hL9, -⟩
  clear cG hL8
  go_wp2_with fail
  go_ret
  exact ⟨rfl, hL9.b⟩
end Go.Proofs.Ytkmdjhdininimaa
