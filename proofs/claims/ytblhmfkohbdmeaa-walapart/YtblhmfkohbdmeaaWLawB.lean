/-
  begun.
-/
import Derived.Test.YtblhmfkohbdmeaaWLawA
namespace Go.Proofs.Ytblhmfkohbdmeaa
open Go.RowKit Go.Maps

theorem newS_keys (n : Nat) : (newS n).keys = [] := keysF_none _
theorem newS_read (n i : Nat) : (newS n).readAt i = zeroS := rfl
theorem newS_safe (n i : Nat) : (newS n).safeAt i = zeroS := rfl
theorem newS_empty (n : Nat) : (newS n).empty = true := by
  unfold DevS.empty
  rw [newS_keys]
  simp [newS_read]
theorem newS_newE (n : Nat) (h : 32 ≤ n) : newE (newS n) = 0 := by
  unfold newE
  have : fitE (newS n) = 0 := by rw [fitE_of (s := newS n) h]; rfl
  rw [this, newS_empty]
  rfl

/-- Two writes, new. -/
theorem rd_two (W : World) (a b : WrD) : RdWr (W.alloc (.cells #[.int .i64 a.k, .string a.x, .int .i64 b.k, .string b.x] 57)) (.slice (some ⟨W.heap.size, 0, none⟩) 2 2) [a, b] := by
  refine ⟨_, _, rfl, by simp, fun i o hi => ⟨_, _, rfl, by simp, ?_⟩⟩
  have h := heap_alloc_last W (.cells #[.int .i64 a.k, .string a.x, .int .i64 b.k, .string b.x] 57)
  match i, hi with
  | 0, hi => simp at hi; subst hi; rw [cell_at h, cell_at h]; exact ⟨rfl, rfl⟩
  | 1, hi => simp at hi; subst hi; rw [cell_at h, cell_at h]; exact ⟨rfl, rfl⟩

def bA : ByteArray := mk (fillTo ⟨#[97]⟩ 1)
def bB : ByteArray := mk (fillTo ⟨#[98]⟩ 1)
theorem bA_size : bA.size = 64 := mk_size (fillTo_len _ _)
theorem bB_size : bB.size = 64 := mk_size (fillTo_len _ _)
def lAB : List WrD := [⟨0, bA⟩, ⟨1, bB⟩]
theorem lAB_E : apartE 15 lAB = 0 := by
  have h : OkW 15 lAB := by
    refine ⟨fun o ho => ?_, ?_⟩
    · simp [lAB] at ho
      rcases ho with rfl | rfl
      · simp [WrD.good, bA_size]
      · simp [WrD.good, bB_size]
    · simp [lAB]
  unfold apartE
  rw [if_pos h]
  rfl
theorem lAB_ok : ∀ o ∈ lAB, o.Ok := by
  intro o ho
  simp [lAB] at ho
  rcases ho with rfl | rfl
  · exact ⟨by decide, by decide, by show bA.size ≤ _; rw [bA_size]; decide⟩
  · exact ⟨by decide, by decide, by show bB.size ≤ _; rw [bB_size]; decide⟩
theorem putAB0 (x : Nat → Sec) : put lAB x 0 = bA.data.toList := by simp [put, lAB, fOf, putF]
theorem putAB1 (x : Nat → Sec) : put lAB x 1 = bB.data.toList := by simp [put, lAB, fOf, putF]
theorem mk_data (b : ByteArray) : mk b.data.toList = b := by simp [mk]

/-- A device of one's own. -/
structure ND (W0 W : World) (p bs bw : Nat) (s : DevS) : Prop where
  dev : IsDev W p bs bw s
  b : Below W0.heap.size W0 W
  lp : W0.heap.size ≤ p
  ls : W0.heap.size ≤ bs
  lw : W0.heap.size ≤ bw
/-- A journal of one's own. -/
structure NJ (W0 W : World) (r p bs bw : Nat) (s : DevS) : Prop extends ND W0 W p bs bw s where
  wal : IsWal W r p s.age false
  lr : W0.heap.size ≤ r

section
variable {W0 W W' : World} {r p bs bw : Nat} {s s' : DevS}
theorem ND.below (h : ND W0 W p bs bw s) (hb : Below W.heap.size W W') : ND W0 W' p bs bw s := ⟨h.dev.below hb, h.b.trans (hb.mono h.b.size), h.lp, h.ls, h.lw⟩
theorem ND.only (h : ND W0 W p bs bw s) (hd : IsDev W' p bs bw s') (ho : Only [p, bs, bw] W W') : ND W0 W' p bs bw s' :=
  ⟨hd, h.b.trans (ho.below h.b.size (by have := h.lp; have := h.ls; have := h.lw; simp; omega)), h.lp, h.ls, h.lw⟩
theorem NJ.below (h : NJ W0 W r p bs bw s) (hb : Below W.heap.size W W') : NJ W0 W' r p bs bw s := ⟨h.toND.below hb, h.wal.below hb, h.lr⟩
theorem NJ.only (h : NJ W0 W r p bs bw s) (hw : IsWal W' r p s'.age false) (hd : IsDev W' p bs bw s') (ho : Only [r, p, bs, bw] W W') : NJ W0 W' r p bs bw s' :=
  ⟨⟨hd, h.b.trans (ho.below h.b.size (by have := h.lp; have := h.ls; have := h.lw; have := h.lr; simp; omega)), h.lp, h.ls, h.lw⟩, hw, h.lr⟩
theorem ND.down (h : ND W0 W p bs bw s) (hd : IsDev W' p bs bw s') (ho : Only [r, p, bs, bw] W W') (hr : W0.heap.size ≤ r) : ND W0 W' p bs bw s' :=
  ⟨hd, h.b.trans (ho.below h.b.size (by have := h.lp; have := h.ls; have := h.lw; simp; omega)), h.lp, h.ls, h.lw⟩
theorem ND.sz (h : ND W0 W p bs bw s) : W0.heap.size ≤ W.heap.size := h.b.size

/-- New, on an empty device. -/
theorem nnew_any (h : ND W0 W p bs bw s) (he : newE s = 0) : Calls Try.prog 16 #[.pointer (some ⟨p, 0, none⟩)] W fun e w' => ∃ r, e = .returned (.tuple #[.pointer (some ⟨r, 0, none⟩), .int .i64 0]) ∧ NJ W0 w' r p bs bw s :=
  (wnew_ok h.dev he).mono fun _ _ ⟨r, h1, h2, h3, h4⟩ => ⟨r, h1, h.below h4, h2, Nat.le_trans h.sz h3⟩

theorem rdy_true (hu : s.up = true) : rdy s s.age false = true := by simp [rdy, hu]

theorem nsize_any {N : Nat} (h : NJ W0 W r p bs bw s) (hu : s.up = true) (hn : s.n = N + 25) : Calls Try.prog 18 #[.pointer (some ⟨r, 0, none⟩)] W fun e w' => e = .returned (.int .i64 (N : Int)) ∧ NJ W0 w' r p bs bw s :=
  (size_any h.wal h.dev).mono fun e w' ⟨h1, h2, h3, h4⟩ => by
    rw [rdy_true hu] at h2
    rw [show (s.n : Int) - 25 = (N : Int) by omega] at h1
    exact ⟨h1, h.only h2 h3 (h4.mono (by simp))⟩
theorem nmost_any (h : NJ W0 W r p bs bw s) (hu : s.up = true) : Calls Try.prog 19 #[.pointer (some ⟨r, 0, none⟩)] W fun e w' => e = .returned (.int .i64 24) ∧ NJ W0 w' r p bs bw s :=
  (most_any h.wal h.dev).mono fun e w' ⟨h1, h2, h3, h4⟩ => by
    rw [rdy_true hu] at h2
    exact ⟨h1, h.only h2 h3 (h4.mono (by simp))⟩
theorem nread_any {N : Nat} (h : NJ W0 W r p bs bw s) (hu : s.up = true) (hn : s.n = N + 25) (i : Nat) (hi : i < N) : Calls Try.prog 21 #[.pointer (some ⟨r, 0, none⟩), .int .i64 (i : Int)] W fun e w' => e = .returned (.tuple #[.string (mk (s.readAt i)), .int .i64 0]) ∧ NJ W0 w' r p bs bw s :=
  (wread_ok h.wal h.dev i (rdy_true hu) (by omega)).mono fun _ _ ⟨h1, h2, h3, h4⟩ => ⟨h1, h.only h2 h3 h4⟩
theorem nread_arg {N : Nat} (h : NJ W0 W r p bs bw s) (hu : s.up = true) (hn : s.n = N + 25) (k : Int) (hk : k < 0 ∨ (N : Int) ≤ k) : Calls Try.prog 21 #[.pointer (some ⟨r, 0, none⟩), .int .i64 k] W fun e w' => e = .returned (.tuple #[.string ⟨#[]⟩, .int .i64 1]) ∧ NJ W0 w' r p bs bw s :=
  (wread_arg h.wal h.dev k (rdy_true hu) (by simp; omega)).mono fun _ _ ⟨h1, h2, h3, h4⟩ => ⟨h1, h.only h2 h3 h4⟩
theorem ncrash_any (h : ND W0 W p bs bw s) (x : ByteArray) (hx : x.size ≤ maxLen) : Calls Try.prog 29 #[.pointer (some ⟨p, 0, none⟩), .string x] W fun e w' => (∃ k : Int, e = .returned (.int .i64 k)) ∧ ND W0 w' p bs bw (s.crashed x.data.toList) :=
  (crash_any h.dev x hx).mono fun _ _ ⟨h1, h2, h3⟩ => ⟨⟨_, h1⟩, h.only h2 h3⟩

/-- Open, at rest, without a fuse. -/
theorem nopen_inf {N : Nat} {x : Nat → Sec} (h : ND W0 W p bs bw s) (hR : Rest N s x) (h7 : 7 ≤ N) (hf : s.fuse = -1) : Calls Try.prog 20 #[.pointer (some ⟨p, 0, none⟩)] W fun e w' => ∃ r s', e = .returned (.tuple #[.pointer (some ⟨r, 0, none⟩), .int .i64 0]) ∧ NJ W0 w' r p bs bw s' ∧ Clean N x s' ∧ s'.keys = [] ∧ s'.fuse = -1 := by
  refine (wopen_any h.dev hR (by have := hR.n; omega)).mono fun e w' ⟨s', h1, h2, h3, h4⟩ => ?_
  rcases h4 with ⟨h4, _⟩ | ⟨r, he, hw, hr, hc, hk, hfu⟩
  · exact absurd hf h4
  · exact ⟨r, s', he, ⟨h.only h1 h2, by rw [h3.age]; exact hw, Nat.le_trans h.sz hr⟩, hc, hk, hfu hf⟩

/-- A Commit that may be, without a fuse. -/
theorem ncommit_inf {N : Nat} {v : Value} {lw : List WrD} (h : NJ W0 W r p bs bw s) (hf : s.fuse = -1) (hn : s.n = N + 25) (hs : s.safeAt N = zeroS) (hr : s.readAt N = zeroS) (hv : RdWr W v lw) (hl : lw.length ≤ maxLen) (ho : ∀ o ∈ lw, o.Ok) (hE : apartE N lw = 0) :
    Calls Try.prog 28 #[.pointer (some ⟨r, 0, none⟩), v] W fun e w' => ∃ s', e = .returned (.int .i64 0) ∧ NJ W0 w' r p bs bw s' ∧ Clean N (put lw s.readAt) s' ∧ s'.keys = [] ∧ s'.fuse = -1 := by
  refine (wcommit_any h.wal h.dev (by rw [up_of hf]; rfl) hn hs hr hv hl ho hE).mono fun e w' ⟨s', h1, h2, h3, h4, h5⟩ => ?_
  rcases h5 with ⟨he, hw, hc, hk, hfu⟩ | ⟨hne, _⟩
  · exact ⟨s', he, h.only (by rw [h3]; exact hw) h1 h2, hc, hk, hfu hf⟩
  · exact absurd hf hne
end

theorem newS_clean (N : Nat) : Clean N (fun _ => zeroS) (newS (N + 25)) := ⟨rfl, rfl, rfl, fun _ _ => ⟨rfl, rfl⟩⟩

/-- A new device. -/
theorem ndev_any (W0 w : World) (hB : Below W0.heap.size W0 w) (n : Nat) (h0 : 8 ≤ n) (h1 : n ≤ 8192) :
    Calls Try.prog 10 #[.int .i64 (n : Int)] w fun e w' => ∃ p bs bw, e = .returned (.tuple #[.pointer (some ⟨p, 0, none⟩), .int .i64 0]) ∧ ND W0 w' p bs bw (newS n) :=
  (new_ok n w h0 h1).mono fun _ _ ⟨h1, h2, h3⟩ => ⟨_, _, _, h1, h2, hB.trans (h3.mono hB.size), by have := hB.size; omega, hB.size, by have := hB.size; omega⟩

set_option maxRecDepth 20000 in
set_option maxHeartbeats 4000000 in
theorem begun_any (w : World) : Calls Try.prog 11 #[] w fun e w' => e = .returned (.bool true) ∧ Below w.heap.size w w' := by
  have cN : Calls Try.prog 10 #[.int .i64 40] w _ := ndev_any w w (Below.refl _ _) 40 (by decide) (by decide)
  have cA : ∀ W, Calls Try.prog 13 #[.string ⟨#[97]⟩] W fun e w' => e = .returned (.string bA) ∧ Below W.heap.size W w' := fun W => bytes_any ⟨#[97]⟩ W (by decide)
  have cB : ∀ W, Calls Try.prog 13 #[.string ⟨#[98]⟩] W fun e w' => e = .returned (.string bB) ∧ Below W.heap.size W w' := fun W => bytes_any ⟨#[98]⟩ W (by decide)
  go_enter Try.func11, Try.ntmps11
  go_wp2_with fail
  refine cN.mono ?_
  rintro e w1 ⟨p, bs, bw, rfl, hD1⟩
  clear cN
  have cW := nnew_any hD1 (newS_newE 40 (by decide))
  go_wp2_with fail
  refine cW.mono ?_
  rintro e w2 ⟨r, rfl, hJ2⟩
  clear cW hD1
  have cS := nsize_any hJ2 (N := 15) rfl rfl
  go_wp2_with fail
  refine cS.mono ?_
  rintro e w3 ⟨rfl, hJ3⟩
  clear cS hJ2
  have cM := nmost_any hJ3 rfl
  go_wp2_with fail
  refine cM.mono ?_
  rintro e w4 ⟨rfl, hJ4⟩
  clear cM hJ3
  go_wp2_with fail
  refine (cA _).mono ?_
  rintro e w5 ⟨rfl, hb5⟩
  have hJ5 := hJ4.below hb5
  clear hJ4 hb5
  go_wp2_with fail
  refine (cB _).mono ?_
  rintro e w6 ⟨rfl, hb6⟩
  have hJ6 := hJ5.below hb6
  clear hJ5 hb6
  have hJ7 := hJ6.below (W' := w6.alloc (.cells #[.int .i64 0, .string bA, .int .i64 1, .string bB] 57)) ((Below.refl _ _).alloc (Nat.le_refl _) _)
  have cC := ncommit_inf (N := 15) (lw := lAB) hJ7 rfl rfl rfl rfl (rd_two w6 ⟨0, bA⟩ ⟨1, bB⟩) (by decide) lAB_ok lAB_E
  clear hJ6 hJ7
  go_wp2_with fail
  refine cC.mono ?_
  rintro e w8 ⟨s8, rfl, hJ8, hC8, hk8, hf8⟩
  clear cC
  have cR := ncrash_any hJ8.toND ⟨#[]⟩ (by decide)
  have hR9 := hC8.crash []
  clear hJ8 hC8
  go_wp2_with fail
  refine cR.mono ?_
  rintro e w9 ⟨⟨k9, rfl⟩, hD9⟩
  clear cR
  have cO := nopen_inf hD9 hR9 (by decide) rfl
  clear hD9 hR9
  go_wp2_with fail
  refine cO.mono ?_
  rintro e w10 ⟨x, s10, rfl, hJ10, hC10, hk10, hf10⟩
  clear cO
  have hu10 : s10.up = true := by rw [up_of hf10]; rfl
  have c0 := nread_any hJ10 hu10 hC10.n 0 (by decide)
  rw [(hC10.rest 0 (by decide)).2, putAB0, mk_data] at c0
  go_wp2_with fail
  refine c0.mono ?_
  rintro e w11 ⟨rfl, hJ11⟩
  clear c0 hJ10
  have c1 := nread_any hJ11 hu10 hC10.n 1 (by decide)
  rw [(hC10.rest 1 (by decide)).2, putAB1, mk_data] at c1
  go_wp2_with fail
  refine c1.mono ?_
  rintro e w12 ⟨rfl, hJ12⟩
  clear c1 hJ11
  go_wp2_with fail
  refine (cA _).mono ?_
  rintro e w13 ⟨rfl, hb13⟩
  have hJ13 := hJ12.below hb13
  clear hJ12 hb13
  go_wp2_with fail
  refine (cB _).mono ?_
  rintro e w14 ⟨rfl, hb14⟩
  have hJ14 := hJ13.below hb14
  clear hJ13 hb14
  go_wp2_with fail
  go_ret
  exact ⟨rfl, hJ14.b⟩
end Go.Proofs.Ytblhmfkohbdmeaa
