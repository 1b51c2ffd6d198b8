/-
  Proved: journals are made on empty devices that are great enough, and opened on them; all else is refused, and nothing is written (the law WalMakes), for every input.
-/
import Derived.Test.YtblhmfkohbdmeaaWArgs
namespace Go.Proofs.Ytblhmfkohbdmeaa
open Go.RowKit Go.Maps

section
variable {W0 W W' : World} {r p bs bw : Nat} {s s' : DevS}
theorem nwrite_any (h : ND W0 W p bs bw s) (k : Int) (x : ByteArray) : Calls Try.prog 12 #[.pointer (some ⟨p, 0, none⟩), .int .i64 k, .string x] W fun e w' => e = .returned (.int .i64 (s.write k x).1) ∧ ND W0 w' p bs bw (s.write k x).2 :=
  (write_all h.dev k x).mono fun _ _ ⟨h1, h2, h3⟩ => ⟨h1, h.only h2 h3⟩
theorem nsync_any (h : ND W0 W p bs bw s) : Calls Try.prog 14 #[.pointer (some ⟨p, 0, none⟩)] W fun e w' => e = .returned (.int .i64 s.sync.1) ∧ ND W0 w' p bs bw s.sync.2 :=
  (sync_all h.dev).mono fun _ _ ⟨h1, h2, h3⟩ => ⟨h1, h.only h2 h3⟩
theorem nfuse_any (h : ND W0 W p bs bw s) (n : Int) (hn : n ≤ 9223372036854775807) : Calls Try.prog 15 #[.pointer (some ⟨p, 0, none⟩), .int .i64 n] W fun e w' => e = .returned (.int .i64 (s.setF n).1) ∧ ND W0 w' p bs bw (s.setF n).2 :=
  (fuse_all h.dev n hn).mono fun _ _ ⟨h1, h2, h3⟩ => ⟨h1, h.only h2 h3⟩
theorem nwait_any (h : ND W0 W p bs bw s) (hk : s.keys = []) : Calls Try.prog 17 #[.pointer (some ⟨p, 0, none⟩)] W fun e w' => (∃ ao cp, e = .returned (.slice ao 0 cp)) ∧ Below W.heap.size W w' :=
  (waiting_any h.dev).mono fun e w' ⟨v, h1, h2, _, h4⟩ => by
    rw [hk] at h2
    obtain ⟨ao, cp, rfl, _⟩ := own_shape h2
    exact ⟨⟨ao, cp, h1⟩, h4⟩
theorem nwait_njl (h : NJ W0 W r p bs bw s) (hk : s.keys = []) : Calls Try.prog 17 #[.pointer (some ⟨p, 0, none⟩)] W fun e w' => (∃ ao cp, e = .returned (.slice ao 0 cp)) ∧ NJ W0 w' r p bs bw s :=
  (nwait_any h.toND hk).mono fun _ _ ⟨h1, h2⟩ => ⟨h1, h.below h2⟩
end

def xS : Sec := fillTo ⟨#[120]⟩ 1
theorem xS_len : xS.length = 64 := fillTo_len _ _
theorem xS_ne : xS ≠ zeroS := by decide
theorem xS_0 : 24 < (xS.getD 0 0).toNat := by decide

/-- A device of which one sector was written. -/
def dirtyS (n k : Nat) : DevS := ((newS n).write (k : Int) (Go.Proofs.Ytblhmfkohbdmeaa.mk xS)).2.sync.2
theorem dirtyS_eq (n k : Nat) (hk : k < n) : dirtyS n k = { ({ newS n with waits := putF (newS n).waits k xS, fuse := burnt (newS n).fuse } : DevS).synced with fuse := -1 } := by
  unfold dirtyS
  rw [write_go (s := newS n) rfl k hk xS xS_len, sync_go (by rfl)]
  rfl
theorem dirtyS_n (n k : Nat) : (dirtyS n k).n = n := by unfold dirtyS; rw [sync_n, write_n]; rfl
theorem dirtyS_keys (n k : Nat) (hk : k < n) : (dirtyS n k).keys = [] := by rw [dirtyS_eq n k hk]; exact keysF_none _
theorem dirtyS_fuse (n k : Nat) (hk : k < n) : (dirtyS n k).fuse = -1 := by rw [dirtyS_eq n k hk]
theorem dirtyS_read (n k : Nat) (hk : k < n) (i : Nat) : (dirtyS n k).readAt i = if i = k then xS else zeroS := by
  rw [dirtyS_eq n k hk, readAt_sync, readAt_write, newS_read]
theorem dirtyS_empty (n k : Nat) (hk : k < n) : (dirtyS n k).empty = false := by
  unfold DevS.empty
  rw [dirtyS_n]
  have : ((List.range n).all fun i => (dirtyS n k).readAt i == zeroS) = false := by
    rw [List.all_eq_false]
    refine ⟨k, List.mem_range.2 hk, ?_⟩
    rw [dirtyS_read n k hk, if_pos rfl]
    simpa using xS_ne
  rw [this, Bool.and_false]

theorem rest_of {N : Nat} {s : DevS} (hn : s.n = N + 25) (hk : s.keys = []) (hh : s.readAt N = zeroS) : Rest N s s.readAt := ⟨hn, hk, [], LOK.nil N, by rw [hh]; exact hd_nil'.symm, fun _ _ => rfl⟩
end Go.Proofs.Ytblhmfkohbdmeaa
namespace Go.Proofs.Ytblhmfkohbdmeaa.walMakes
open Go.RowKit Go.Maps Go.ChangeShapes Go.WideShapes Go.ChangeAt Go.PlainAid

set_option maxRecDepth 20000 in
set_option maxHeartbeats 4000000 in
theorem down_dirty (c d : Int) (n k : Nat) (w : World) (hc0 : -9223372036854775808 ≤ c) (hc1 : c ≤ 9223372036854775807) (hd0 : -9223372036854775808 ≤ d) (hd1 : d ≤ 9223372036854775807) (hn : pickI c 60 = (n : Int) - 8) (hn8 : 8 ≤ n) (hn68 : n < 68) (hk : pickI d (3 * (n : Int)) = (k : Int)) (hkn : k < n) :
    Calls Try.prog 3 #[.int .i64 c, .int .i64 d, .bool true] w fun e w' => e = .returned (.bool true) ∧ Below w.heap.size w w' := by
  have cP := pick_any c 60 w hc0 hc1 (by omega) (by omega)
  rw [hn] at cP
  have cQ := fun W => pick_any d (3 * (n : Int)) W hd0 hd1 (by omega) (by omega)
  rw [hk] at cQ
  have cN : Calls Try.prog 10 #[.int .i64 (n : Int)] w _ := ndev_any w w (Below.refl _ _) n hn8 (by omega)
  have cX : ∀ W, Calls Try.prog 13 #[.string ⟨#[120]⟩] W fun e w' => e = .returned (.string (mk xS)) ∧ Below W.heap.size W w' := fun W => bytes_any ⟨#[120]⟩ W (by decide)
  have hnI : (n : Int) < 68 := by omega
  have hnJ : (8 : Int) ≤ (n : Int) := by omega
  have hkI : (k : Int) < (n : Int) := by omega
  have hu0 : DevS.up { dirtyS n k with fuse := 0 } = false := rfl
  have hFE : fitE { dirtyS n k with fuse := 0 } = 3 := by unfold fitE; rw [if_pos hu0]
  have hE : newE { dirtyS n k with fuse := 0 } = 3 := by unfold newE; rw [hFE]; rfl
  have hkz : DevS.keys { dirtyS n k with fuse := 0 } = [] := dirtyS_keys n k hkn
  clear hc0 hc1 hd0 hd1 hn hk
  go_enter Try.func3, Try.ntmps3
  go_wp2_with fail
  refine cP.mono ?_
  rintro e w' ⟨rfl, hw⟩
  rw [hw]
  clear hw w' cP
  go_wp2_with fail
  have e8 : (8 : Int) + ((n : Int) - 8) = (n : Int) := by omega
  rw [e8]
  clear e8
  refine cN.mono ?_
  rintro e w1 ⟨p, bs, bw, rfl, hD1⟩
  clear cN
  go_wp2_with fail
  refine (begun_any _).mono ?_
  rintro e w2 ⟨rfl, hb2⟩
  have hD2 := hD1.below hb2
  clear hD1 hb2
  go_wp2_with fail
  refine (cQ _).mono ?_
  rintro e w' ⟨rfl, hw⟩
  rw [hw]
  clear hw w' cQ
  go_wp2_with fail
  refine (cX _).mono ?_
  rintro e w3 ⟨rfl, hb3⟩
  have cW := nwrite_any (hD2.below hb3) (k : Int) (mk xS)
  clear hD2 hb3 cX
  go_wp2_with fail
  refine cW.mono ?_
  rintro e w4 ⟨rfl, hD4⟩
  have cS := nsync_any hD4
  clear cW hD4
  go_wp2_with fail
  refine cS.mono ?_
  rintro e w5 ⟨rfl, hD5'⟩
  have hD5 : ND w w5 p bs bw (dirtyS n k) := hD5'
  clear cS hD5'
  have cF := nfuse_any hD5 0 (by decide)
  clear hD5
  go_wp2_with fail
  refine cF.mono ?_
  rintro e w6 ⟨rfl, hD6'⟩
  have hD6 : ND w w6 p bs bw { dirtyS n k with fuse := 0 } := hD6'
  clear cF hD6'
  have cNw := wnew_no hD6.dev (by rw [hE]; decide)
  rw [hE] at cNw
  go_wp2_with fail
  refine cNw.mono ?_
  rintro e w7 ⟨rfl, hb7⟩
  have hD7 := hD6.below hb7
  clear hD6 hb7 cNw
  have cWt := nwait_any hD7 hkz
  go_wp2_with fail
  refine cWt.mono ?_
  rintro e w8 ⟨⟨ao, cp, rfl⟩, hb8⟩
  have hD8 := hD7.below hb8
  clear hD7 hb8 cWt
  go_wp2_with fail
  refine (wnew_nil _).mono ?_
  rintro e w' ⟨rfl, hw⟩
  rw [hw]
  clear hw w'
  go_wp2_with fail
  refine (open_nil _).mono ?_
  rintro e w' ⟨rfl, hw⟩
  rw [hw]
  clear hw w'
  have cO := open_fit hD8.dev (by rw [hFE]; decide)
  rw [hFE] at cO
  go_wp2_with fail
  refine cO.mono ?_
  rintro e w' ⟨rfl, hw⟩
  rw [hw]
  clear hw w' cO
  go_wp2_with fail
  go_ret
  exact ⟨rfl, hD8.b⟩

set_option maxRecDepth 20000 in
set_option maxHeartbeats 4000000 in
theorem down_new (c d : Int) (n k : Nat) (w : World) (hc0 : -9223372036854775808 ≤ c) (hc1 : c ≤ 9223372036854775807) (hd0 : -9223372036854775808 ≤ d) (hd1 : d ≤ 9223372036854775807) (hn : pickI c 60 = (n : Int) - 8) (hn8 : 8 ≤ n) (hn68 : n < 68) (hk : pickI d (3 * (n : Int)) = (k : Int)) (hkn : ¬ k < n) :
    Calls Try.prog 3 #[.int .i64 c, .int .i64 d, .bool true] w fun e w' => e = .returned (.bool true) ∧ Below w.heap.size w w' := by
  have cP := pick_any c 60 w hc0 hc1 (by omega) (by omega)
  rw [hn] at cP
  have cQ := fun W => pick_any d (3 * (n : Int)) W hd0 hd1 (by omega) (by omega)
  rw [hk] at cQ
  have cN : Calls Try.prog 10 #[.int .i64 (n : Int)] w _ := ndev_any w w (Below.refl _ _) n hn8 (by omega)
  have cX : ∀ W, Calls Try.prog 13 #[.string ⟨#[120]⟩] W fun e w' => e = .returned (.string (mk xS)) ∧ Below W.heap.size W w' := fun W => bytes_any ⟨#[120]⟩ W (by decide)
  have hnI : (n : Int) < 68 := by omega
  have hnJ : (8 : Int) ≤ (n : Int) := by omega
  have hkI : ¬ (k : Int) < (n : Int) := by omega
  have hu0 : DevS.up { newS n with fuse := 0 } = false := rfl
  have hFE : fitE { newS n with fuse := 0 } = 3 := by unfold fitE; rw [if_pos hu0]
  have hE : newE { newS n with fuse := 0 } = 3 := by unfold newE; rw [hFE]; rfl
  have hkz : DevS.keys { newS n with fuse := 0 } = [] := newS_keys n
  clear hc0 hc1 hd0 hd1 hn hk
  go_enter Try.func3, Try.ntmps3
  go_wp2_with fail
  refine cP.mono ?_
  rintro e w' ⟨rfl, hw⟩
  rw [hw]
  clear hw w' cP
  go_wp2_with fail
  have e8 : (8 : Int) + ((n : Int) - 8) = (n : Int) := by omega
  rw [e8]
  clear e8
  refine cN.mono ?_
  rintro e w1 ⟨p, bs, bw, rfl, hD1⟩
  clear cN
  go_wp2_with fail
  refine (begun_any _).mono ?_
  rintro e w2 ⟨rfl, hb2⟩
  have hD2 := hD1.below hb2
  clear hD1 hb2
  go_wp2_with fail
  refine (cQ _).mono ?_
  rintro e w' ⟨rfl, hw⟩
  rw [hw]
  clear hw w' cQ
  clear cX
  have hD5 : ND w w2 p bs bw (newS n) := hD2
  clear hD2
  have cF := nfuse_any hD5 0 (by decide)
  clear hD5
  go_wp2_with fail
  refine cF.mono ?_
  rintro e w6 ⟨rfl, hD6'⟩
  have hD6 : ND w w6 p bs bw { newS n with fuse := 0 } := hD6'
  clear cF hD6'
  have cNw := wnew_no hD6.dev (by rw [hE]; decide)
  rw [hE] at cNw
  go_wp2_with fail
  refine cNw.mono ?_
  rintro e w7 ⟨rfl, hb7⟩
  have hD7 := hD6.below hb7
  clear hD6 hb7 cNw
  have cWt := nwait_any hD7 hkz
  go_wp2_with fail
  refine cWt.mono ?_
  rintro e w8 ⟨⟨ao, cp, rfl⟩, hb8⟩
  have hD8 := hD7.below hb8
  clear hD7 hb8 cWt
  go_wp2_with fail
  refine (wnew_nil _).mono ?_
  rintro e w' ⟨rfl, hw⟩
  rw [hw]
  clear hw w'
  go_wp2_with fail
  refine (open_nil _).mono ?_
  rintro e w' ⟨rfl, hw⟩
  rw [hw]
  clear hw w'
  have cO := open_fit hD8.dev (by rw [hFE]; decide)
  rw [hFE] at cO
  go_wp2_with fail
  refine cO.mono ?_
  rintro e w' ⟨rfl, hw⟩
  rw [hw]
  clear hw w' cO
  go_wp2_with fail
  go_ret
  exact ⟨rfl, hD8.b⟩

set_option maxRecDepth 20000 in
set_option maxHeartbeats 4000000 in
theorem small_dirty (c d : Int) (n k : Nat) (w : World) (hc0 : -9223372036854775808 ≤ c) (hc1 : c ≤ 9223372036854775807) (hd0 : -9223372036854775808 ≤ d) (hd1 : d ≤ 9223372036854775807) (hn : pickI c 60 = (n : Int) - 8) (hn8 : 8 ≤ n) (hn68 : n < 68) (hk : pickI d (3 * (n : Int)) = (k : Int)) (hkn : k < n) (h32 : n < 32) :
    Calls Try.prog 3 #[.int .i64 c, .int .i64 d, .bool false] w fun e w' => e = .returned (.bool true) ∧ Below w.heap.size w w' := by
  have cP := pick_any c 60 w hc0 hc1 (by omega) (by omega)
  rw [hn] at cP
  have cQ := fun W => pick_any d (3 * (n : Int)) W hd0 hd1 (by omega) (by omega)
  rw [hk] at cQ
  have cN : Calls Try.prog 10 #[.int .i64 (n : Int)] w _ := ndev_any w w (Below.refl _ _) n hn8 (by omega)
  have cX : ∀ W, Calls Try.prog 13 #[.string ⟨#[120]⟩] W fun e w' => e = .returned (.string (mk xS)) ∧ Below W.heap.size W w' := fun W => bytes_any ⟨#[120]⟩ W (by decide)
  have hnI : (n : Int) < 68 := by omega
  have hnJ : (8 : Int) ≤ (n : Int) := by omega
  have hkI : (k : Int) < (n : Int) := by omega
  have hu0 : (dirtyS n k).up = true := by rw [up_of (dirtyS_fuse n k hkn)]; rfl
  have hFE : fitE (dirtyS n k) = 4 := by unfold fitE; rw [if_neg (by rw [hu0]; simp), dirtyS_n, if_pos h32]
  have hE : newE (dirtyS n k) = 4 := by unfold newE; rw [hFE]; rfl
  have hkz := dirtyS_keys n k hkn
  have h32' : (n : Int) < 32 := by omega
  clear hc0 hc1 hd0 hd1 hn hk
  go_enter Try.func3, Try.ntmps3
  go_wp2_with fail
  refine cP.mono ?_
  rintro e w' ⟨rfl, hw⟩
  rw [hw]
  clear hw w' cP
  go_wp2_with fail
  have e8 : (8 : Int) + ((n : Int) - 8) = (n : Int) := by omega
  rw [e8]
  clear e8
  refine cN.mono ?_
  rintro e w1 ⟨p, bs, bw, rfl, hD1⟩
  clear cN
  go_wp2_with fail
  refine (begun_any _).mono ?_
  rintro e w2 ⟨rfl, hb2⟩
  have hD2 := hD1.below hb2
  clear hD1 hb2
  go_wp2_with fail
  refine (cQ _).mono ?_
  rintro e w' ⟨rfl, hw⟩
  rw [hw]
  clear hw w' cQ
  go_wp2_with fail
  refine (cX _).mono ?_
  rintro e w3 ⟨rfl, hb3⟩
  have cW := nwrite_any (hD2.below hb3) (k : Int) (mk xS)
  clear hD2 hb3 cX
  go_wp2_with fail
  refine cW.mono ?_
  rintro e w4 ⟨rfl, hD4⟩
  have cS := nsync_any hD4
  clear cW hD4
  go_wp2_with fail
  refine cS.mono ?_
  rintro e w5 ⟨rfl, hD5'⟩
  have hD5 : ND w w5 p bs bw (dirtyS n k) := hD5'
  clear cS hD5'
  have hD6 := hD5
  clear hD5
  have cNw := wnew_no hD6.dev (by rw [hE]; decide)
  rw [hE] at cNw
  go_wp2_with fail
  refine cNw.mono ?_
  rintro e w7 ⟨rfl, hb7⟩
  have hD7 := hD6.below hb7
  clear hD6 hb7 cNw
  have cWt := nwait_any hD7 hkz
  go_wp2_with fail
  refine cWt.mono ?_
  rintro e w8 ⟨⟨ao, cp, rfl⟩, hb8⟩
  have hD8 := hD7.below hb8
  clear hD7 hb8 cWt
  go_wp2_with fail
  refine (wnew_nil _).mono ?_
  rintro e w' ⟨rfl, hw⟩
  rw [hw]
  clear hw w'
  go_wp2_with fail
  refine (open_nil _).mono ?_
  rintro e w' ⟨rfl, hw⟩
  rw [hw]
  clear hw w'
  have cO := open_fit hD8.dev (by rw [hFE]; decide)
  rw [hFE] at cO
  go_wp2_with fail
  refine cO.mono ?_
  rintro e w' ⟨rfl, hw⟩
  rw [hw]
  clear hw w' cO
  go_wp2_with fail
  go_ret
  exact ⟨rfl, hD8.b⟩

set_option maxRecDepth 20000 in
set_option maxHeartbeats 4000000 in
theorem small_new (c d : Int) (n k : Nat) (w : World) (hc0 : -9223372036854775808 ≤ c) (hc1 : c ≤ 9223372036854775807) (hd0 : -9223372036854775808 ≤ d) (hd1 : d ≤ 9223372036854775807) (hn : pickI c 60 = (n : Int) - 8) (hn8 : 8 ≤ n) (hn68 : n < 68) (hk : pickI d (3 * (n : Int)) = (k : Int)) (hkn : ¬ k < n) (h32 : n < 32) :
    Calls Try.prog 3 #[.int .i64 c, .int .i64 d, .bool false] w fun e w' => e = .returned (.bool true) ∧ Below w.heap.size w w' := by
  have cP := pick_any c 60 w hc0 hc1 (by omega) (by omega)
  rw [hn] at cP
  have cQ := fun W => pick_any d (3 * (n : Int)) W hd0 hd1 (by omega) (by omega)
  rw [hk] at cQ
  have cN : Calls Try.prog 10 #[.int .i64 (n : Int)] w _ := ndev_any w w (Below.refl _ _) n hn8 (by omega)
  have cX : ∀ W, Calls Try.prog 13 #[.string ⟨#[120]⟩] W fun e w' => e = .returned (.string (mk xS)) ∧ Below W.heap.size W w' := fun W => bytes_any ⟨#[120]⟩ W (by decide)
  have hnI : (n : Int) < 68 := by omega
  have hnJ : (8 : Int) ≤ (n : Int) := by omega
  have hkI : ¬ (k : Int) < (n : Int) := by omega
  have hFE : fitE (newS n) = 4 := by unfold fitE; rw [if_neg (by show ¬ true = false; simp)]; exact if_pos h32
  have hE : newE (newS n) = 4 := by unfold newE; rw [hFE]; rfl
  have hkz := newS_keys n
  have h32' : (n : Int) < 32 := by omega
  clear hc0 hc1 hd0 hd1 hn hk
  go_enter Try.func3, Try.ntmps3
  go_wp2_with fail
  refine cP.mono ?_
  rintro e w' ⟨rfl, hw⟩
  rw [hw]
  clear hw w' cP
  go_wp2_with fail
  have e8 : (8 : Int) + ((n : Int) - 8) = (n : Int) := by omega
  rw [e8]
  clear e8
  refine cN.mono ?_
  rintro e w1 ⟨p, bs, bw, rfl, hD1⟩
  clear cN
  go_wp2_with fail
  refine (begun_any _).mono ?_
  rintro e w2 ⟨rfl, hb2⟩
  have hD2 := hD1.below hb2
  clear hD1 hb2
  go_wp2_with fail
  refine (cQ _).mono ?_
  rintro e w' ⟨rfl, hw⟩
  rw [hw]
  clear hw w' cQ
  clear cX
  have hD5 : ND w w2 p bs bw (newS n) := hD2
  clear hD2
  have hD6 := hD5
  clear hD5
  have cNw := wnew_no hD6.dev (by rw [hE]; decide)
  rw [hE] at cNw
  go_wp2_with fail
  refine cNw.mono ?_
  rintro e w7 ⟨rfl, hb7⟩
  have hD7 := hD6.below hb7
  clear hD6 hb7 cNw
  have cWt := nwait_any hD7 hkz
  go_wp2_with fail
  refine cWt.mono ?_
  rintro e w8 ⟨⟨ao, cp, rfl⟩, hb8⟩
  have hD8 := hD7.below hb8
  clear hD7 hb8 cWt
  go_wp2_with fail
  refine (wnew_nil _).mono ?_
  rintro e w' ⟨rfl, hw⟩
  rw [hw]
  clear hw w'
  go_wp2_with fail
  refine (open_nil _).mono ?_
  rintro e w' ⟨rfl, hw⟩
  rw [hw]
  clear hw w'
  have cO := open_fit hD8.dev (by rw [hFE]; decide)
  rw [hFE] at cO
  go_wp2_with fail
  refine cO.mono ?_
  rintro e w' ⟨rfl, hw⟩
  rw [hw]
  clear hw w' cO
  go_wp2_with fail
  go_ret
  exact ⟨rfl, hD8.b⟩

set_option maxRecDepth 20000 in
set_option maxHeartbeats 4000000 in
theorem form_heading (c d : Int) (n k : Nat) (w : World) (hc0 : -9223372036854775808 ≤ c) (hc1 : c ≤ 9223372036854775807) (hd0 : -9223372036854775808 ≤ d) (hd1 : d ≤ 9223372036854775807) (hn : pickI c 60 = (n : Int) - 8) (hn8 : 8 ≤ n) (hn68 : n < 68) (hk : pickI d (3 * (n : Int)) = (k : Int)) (hkn : k < n) (h32 : 32 ≤ n) (N : Nat) (hNn : Hid (n = N + 25)) (hkN : Hid (k = N)) :
    Calls Try.prog 3 #[.int .i64 c, .int .i64 d, .bool false] w fun e w' => e = .returned (.bool true) ∧ Below w.heap.size w w' := by
  have cP := pick_any c 60 w hc0 hc1 (by omega) (by omega)
  rw [hn] at cP
  have cQ := fun W => pick_any d (3 * (n : Int)) W hd0 hd1 (by omega) (by omega)
  rw [hk] at cQ
  have cN : Calls Try.prog 10 #[.int .i64 (n : Int)] w _ := ndev_any w w (Below.refl _ _) n hn8 (by omega)
  have cX : ∀ W, Calls Try.prog 13 #[.string ⟨#[120]⟩] W fun e w' => e = .returned (.string (mk xS)) ∧ Below W.heap.size W w' := fun W => bytes_any ⟨#[120]⟩ W (by decide)
  have hnI : (n : Int) < 68 := by omega
  have hnJ : (8 : Int) ≤ (n : Int) := by omega
  have hkI : (k : Int) < (n : Int) := by omega
  have hu0 : (dirtyS n k).up = true := by rw [up_of (dirtyS_fuse n k hkn)]; rfl
  have hFE : fitE (dirtyS n k) = 0 := by rw [fitE_of (by rw [dirtyS_n]; exact h32), hu0]; rfl
  have hE : newE (dirtyS n k) = 40 := by unfold newE; rw [hFE, dirtyS_empty n k hkn]; rfl
  have hkz := dirtyS_keys n k hkn
  have h32' : ¬ (n : Int) < 32 := by omega
  have hN : Hid ((dirtyS n k).n = N + 25) := by show (dirtyS n k).n = N + 25; rw [dirtyS_n]; exact hNn.out
  clear hc0 hc1 hd0 hd1 hn hk
  go_enter Try.func3, Try.ntmps3
  go_wp2_with fail
  refine cP.mono ?_
  rintro e w' ⟨rfl, hw⟩
  rw [hw]
  clear hw w' cP
  go_wp2_with fail
  have e8 : (8 : Int) + ((n : Int) - 8) = (n : Int) := by omega
  rw [e8]
  clear e8
  refine cN.mono ?_
  rintro e w1 ⟨p, bs, bw, rfl, hD1⟩
  clear cN
  go_wp2_with fail
  refine (begun_any _).mono ?_
  rintro e w2 ⟨rfl, hb2⟩
  have hD2 := hD1.below hb2
  clear hD1 hb2
  go_wp2_with fail
  refine (cQ _).mono ?_
  rintro e w' ⟨rfl, hw⟩
  rw [hw]
  clear hw w' cQ
  go_wp2_with fail
  refine (cX _).mono ?_
  rintro e w3 ⟨rfl, hb3⟩
  have cW := nwrite_any (hD2.below hb3) (k : Int) (mk xS)
  clear hD2 hb3 cX
  go_wp2_with fail
  refine cW.mono ?_
  rintro e w4 ⟨rfl, hD4⟩
  have cS := nsync_any hD4
  clear cW hD4
  go_wp2_with fail
  refine cS.mono ?_
  rintro e w5 ⟨rfl, hD5'⟩
  have hD5 : ND w w5 p bs bw (dirtyS n k) := hD5'
  clear cS hD5'
  have hD6 := hD5
  clear hD5
  have cNw := wnew_no hD6.dev (by rw [hE]; decide)
  rw [hE] at cNw
  go_wp2_with fail
  refine cNw.mono ?_
  rintro e w7 ⟨rfl, hb7⟩
  have hD7 := hD6.below hb7
  clear hD6 hb7 cNw
  have cWt := nwait_any hD7 hkz
  go_wp2_with fail
  refine cWt.mono ?_
  rintro e w8 ⟨⟨ao, cp, rfl⟩, hb8⟩
  have hD8 := hD7.below hb8
  clear hD7 hb8 cWt
  go_wp2_with fail
  refine (wnew_nil _).mono ?_
  rintro e w' ⟨rfl, hw⟩
  rw [hw]
  clear hw w'
  go_wp2_with fail
  refine (open_nil _).mono ?_
  rintro e w' ⟨rfl, hw⟩
  rw [hw]
  clear hw w'
  have cO := open_form hD8.dev hFE hN.out (by rw [dirtyS_read n k hkn, if_pos hkN.out.symm]; exact xS_0)
  go_wp2_with fail
  refine cO.mono ?_
  rintro e w9 ⟨rfl, hb9⟩
  have hD9 := hD8.below hb9
  clear cO hb9
  go_wp2_with fail
  go_ret
  exact ⟨rfl, hD9.b⟩

set_option maxRecDepth 20000 in
set_option maxHeartbeats 4000000 in
theorem form_home (c d : Int) (n k : Nat) (w : World) (hc0 : -9223372036854775808 ≤ c) (hc1 : c ≤ 9223372036854775807) (hd0 : -9223372036854775808 ≤ d) (hd1 : d ≤ 9223372036854775807) (hn : pickI c 60 = (n : Int) - 8) (hn8 : 8 ≤ n) (hn68 : n < 68) (hk : pickI d (3 * (n : Int)) = (k : Int)) (hkn : k < n) (h32 : 32 ≤ n) (N : Nat) (hNn : Hid (n = N + 25)) (hkN : Hid (¬ k = N)) :
    Calls Try.prog 3 #[.int .i64 c, .int .i64 d, .bool false] w fun e w' => e = .returned (.bool true) ∧ Below w.heap.size w w' := by
  have cP := pick_any c 60 w hc0 hc1 (by omega) (by omega)
  rw [hn] at cP
  have cQ := fun W => pick_any d (3 * (n : Int)) W hd0 hd1 (by omega) (by omega)
  rw [hk] at cQ
  have cN : Calls Try.prog 10 #[.int .i64 (n : Int)] w _ := ndev_any w w (Below.refl _ _) n hn8 (by omega)
  have cX : ∀ W, Calls Try.prog 13 #[.string ⟨#[120]⟩] W fun e w' => e = .returned (.string (mk xS)) ∧ Below W.heap.size W w' := fun W => bytes_any ⟨#[120]⟩ W (by decide)
  have hnI : (n : Int) < 68 := by omega
  have hnJ : (8 : Int) ≤ (n : Int) := by omega
  have hkI : (k : Int) < (n : Int) := by omega
  have hu0 : (dirtyS n k).up = true := by rw [up_of (dirtyS_fuse n k hkn)]; rfl
  have hFE : fitE (dirtyS n k) = 0 := by rw [fitE_of (by rw [dirtyS_n]; exact h32), hu0]; rfl
  have hE : newE (dirtyS n k) = 40 := by unfold newE; rw [hFE, dirtyS_empty n k hkn]; rfl
  have hkz := dirtyS_keys n k hkn
  have h32' : ¬ (n : Int) < 32 := by omega
  have hN : Hid ((dirtyS n k).n = N + 25) := by show (dirtyS n k).n = N + 25; rw [dirtyS_n]; exact hNn.out
  clear hc0 hc1 hd0 hd1 hn hk
  go_enter Try.func3, Try.ntmps3
  go_wp2_with fail
  refine cP.mono ?_
  rintro e w' ⟨rfl, hw⟩
  rw [hw]
  clear hw w' cP
  go_wp2_with fail
  have e8 : (8 : Int) + ((n : Int) - 8) = (n : Int) := by omega
  rw [e8]
  clear e8
  refine cN.mono ?_
  rintro e w1 ⟨p, bs, bw, rfl, hD1⟩
  clear cN
  go_wp2_with fail
  refine (begun_any _).mono ?_
  rintro e w2 ⟨rfl, hb2⟩
  have hD2 := hD1.below hb2
  clear hD1 hb2
  go_wp2_with fail
  refine (cQ _).mono ?_
  rintro e w' ⟨rfl, hw⟩
  rw [hw]
  clear hw w' cQ
  go_wp2_with fail
  refine (cX _).mono ?_
  rintro e w3 ⟨rfl, hb3⟩
  have cW := nwrite_any (hD2.below hb3) (k : Int) (mk xS)
  clear hD2 hb3 cX
  go_wp2_with fail
  refine cW.mono ?_
  rintro e w4 ⟨rfl, hD4⟩
  have cS := nsync_any hD4
  clear cW hD4
  go_wp2_with fail
  refine cS.mono ?_
  rintro e w5 ⟨rfl, hD5'⟩
  have hD5 : ND w w5 p bs bw (dirtyS n k) := hD5'
  clear cS hD5'
  have hD6 := hD5
  clear hD5
  have cNw := wnew_no hD6.dev (by rw [hE]; decide)
  rw [hE] at cNw
  go_wp2_with fail
  refine cNw.mono ?_
  rintro e w7 ⟨rfl, hb7⟩
  have hD7 := hD6.below hb7
  clear hD6 hb7 cNw
  have cWt := nwait_any hD7 hkz
  go_wp2_with fail
  refine cWt.mono ?_
  rintro e w8 ⟨⟨ao, cp, rfl⟩, hb8⟩
  have hD8 := hD7.below hb8
  clear hD7 hb8 cWt
  go_wp2_with fail
  refine (wnew_nil _).mono ?_
  rintro e w' ⟨rfl, hw⟩
  rw [hw]
  clear hw w'
  go_wp2_with fail
  refine (open_nil _).mono ?_
  rintro e w' ⟨rfl, hw⟩
  rw [hw]
  clear hw w'
  have cO := nopen_inf hD8 (rest_of hN.out hkz (by rw [dirtyS_read n k hkn, if_neg (fun h => hkN.out h.symm)])) (by have := hNn.out; omega) (dirtyS_fuse n k hkn)
  go_wp2_with fail
  refine cO.mono ?_
  rintro e w9 ⟨x, s9, rfl, hJ9, hC9, _⟩
  clear cO
  go_wp2_with fail
  go_ret
  exact ⟨rfl, hJ9.b⟩

set_option maxRecDepth 20000 in
set_option maxHeartbeats 4000000 in
theorem ok (c d : Int) (n k : Nat) (w : World) (hc0 : -9223372036854775808 ≤ c) (hc1 : c ≤ 9223372036854775807) (hd0 : -9223372036854775808 ≤ d) (hd1 : d ≤ 9223372036854775807) (hn : pickI c 60 = (n : Int) - 8) (hn8 : 8 ≤ n) (hn68 : n < 68) (hk : pickI d (3 * (n : Int)) = (k : Int)) (hkn : ¬ k < n) (h32 : 32 ≤ n) (N : Nat) (hNn : Hid (n = N + 25)) :
    Calls Try.prog 3 #[.int .i64 c, .int .i64 d, .bool false] w fun e w' => e = .returned (.bool true) ∧ Below w.heap.size w w' := by
  have cP := pick_any c 60 w hc0 hc1 (by omega) (by omega)
  rw [hn] at cP
  have cQ := fun W => pick_any d (3 * (n : Int)) W hd0 hd1 (by omega) (by omega)
  rw [hk] at cQ
  have cN : Calls Try.prog 10 #[.int .i64 (n : Int)] w _ := ndev_any w w (Below.refl _ _) n hn8 (by omega)
  have cX : ∀ W, Calls Try.prog 13 #[.string ⟨#[120]⟩] W fun e w' => e = .returned (.string (mk xS)) ∧ Below W.heap.size W w' := fun W => bytes_any ⟨#[120]⟩ W (by decide)
  have hnI : (n : Int) < 68 := by omega
  have hnJ : (8 : Int) ≤ (n : Int) := by omega
  have hkI : ¬ (k : Int) < (n : Int) := by omega
  have h32' : ¬ (n : Int) < 32 := by omega
  have hN : Hid ((newS n).n = N + 25) := hNn.out
  clear hc0 hc1 hd0 hd1 hn hk
  go_enter Try.func3, Try.ntmps3
  go_wp2_with fail
  refine cP.mono ?_
  rintro e w' ⟨rfl, hw⟩
  rw [hw]
  clear hw w' cP
  go_wp2_with fail
  have e8 : (8 : Int) + ((n : Int) - 8) = (n : Int) := by omega
  rw [e8]
  clear e8
  refine cN.mono ?_
  rintro e w1 ⟨p, bs, bw, rfl, hD1⟩
  clear cN
  go_wp2_with fail
  refine (begun_any _).mono ?_
  rintro e w2 ⟨rfl, hb2⟩
  have hD2 := hD1.below hb2
  clear hD1 hb2
  go_wp2_with fail
  refine (cQ _).mono ?_
  rintro e w' ⟨rfl, hw⟩
  rw [hw]
  clear hw w' cQ
  clear cX
  have hD5 : ND w w2 p bs bw (newS n) := hD2
  clear hD2
  have hD6 := hD5
  clear hD5
  have cNw := nnew_any hD6 (newS_newE n h32)
  go_wp2_with fail
  refine cNw.mono ?_
  rintro e w7 ⟨r, rfl, hJ7⟩
  clear hD6 cNw
  have cWt := nwait_njl hJ7 (newS_keys n)
  clear hJ7
  go_wp2_with fail
  refine cWt.mono ?_
  rintro e w8 ⟨⟨ao, cp, rfl⟩, hJ8⟩
  clear cWt
  have cS := nsize_any hJ8 rfl hN.out
  clear hJ8
  go_wp2_with fail
  refine cS.mono ?_
  rintro e w9 ⟨rfl, hJ9⟩
  clear cS
  have cM := nmost_any hJ9 rfl
  clear hJ9
  go_wp2_with fail
  refine cM.mono ?_
  rintro e w10 ⟨rfl, hJ10⟩
  clear cM
  go_wp2_with fail
  refine (wnew_nil _).mono ?_
  rintro e w' ⟨rfl, hw⟩
  rw [hw]
  clear hw w'
  go_wp2_with fail
  refine (open_nil _).mono ?_
  rintro e w' ⟨rfl, hw⟩
  rw [hw]
  clear hw w'
  have cO := nopen_inf hJ10.toND (rest_of hN.out (newS_keys n) rfl) (by have := hNn.out; omega) rfl
  clear hJ10
  go_wp2_with fail
  refine cO.mono ?_
  rintro e w11 ⟨x, s11, rfl, hJ11, hC11, hk11, hf11⟩
  clear cO
  have hu : s11.up = true := by rw [up_of hf11]; rfl
  have hz : ∀ i, i < N → s11.readAt i = zeroS := fun i hi => (hC11.rest i hi).2
  have hn11 := hC11.n
  clear hC11 hk11 hf11
  have hNn : (n : Int) = (N : Int) + 25 := by have h : n = N + 25 := hNn.out; omega
  have cS := nsize_any hJ11 hu hn11
  clear hJ11
  have q1 : ¬ (N : Int) < (n : Int) - 32 := by omega
  have q2 : ¬ (n : Int) < (N : Int) := by omega
  go_wp2_with fail
  refine cS.mono ?_
  rintro e w12 ⟨rfl, hJ12⟩
  clear cS
  have cM := nmost_any hJ12 hu
  clear hJ12
  go_wp2_with fail
  refine cM.mono ?_
  rintro e w13 ⟨rfl, hJ13⟩
  clear cM
  go_wp2_with fail
  go_loopw [20] (fun i wr => ∃ j : Nat, j ≤ N ∧ i = .int .i64 (j : Int) ∧ NJ w wr x p bs bw s11) (fun i _ => N - (intOf i).toNat)
  case atStart => exact ⟨0, Nat.zero_le _, rfl, hJ13⟩
  case round =>
    obtain ⟨j, hj, rfl, hJ⟩ := hrel
    clear hJ13
    have cS := nsize_any hJ hu hn11
    clear hJ
    go_wp2_with fail
    refine cS.mono ?_
    rintro e w14 ⟨rfl, hJ14⟩
    clear cS
    by_cases hlt : j < N
    · have hlt' : (j : Int) < (N : Int) := by omega
      have cR := nread_any hJ14 hu hn11 j hlt
      rw [hz j hlt] at cR
      clear hJ14
      go_wp2_with fail
      refine cR.mono ?_
      rintro e w15 ⟨rfl, hJ15⟩
      clear cR
      go_wp2_with fail
      refine (lzero_any _).mono ?_
      rintro e w16 ⟨rfl, hb16⟩
      have hJ16 := hJ15.below hb16
      clear hJ15 hb16
      go_wp2_with fail
      go_roundw
      case rel => exact ⟨j + 1, by omega, by go_num, hJ16⟩
      case measure => simp [intOf]; omega
    · have hlt' : ¬ (j : Int) < (N : Int) := by omega
      have cR := nread_arg hJ14 hu hn11 (-1) (.inl (by decide))
      clear hJ14
      go_wp2_with fail
      refine cR.mono ?_
      rintro e w15 ⟨rfl, hJ15⟩
      clear cR
      have cS := nsize_any hJ15 hu hn11
      clear hJ15
      go_wp2_with fail
      refine cS.mono ?_
      rintro e w16 ⟨rfl, hJ16⟩
      clear cS
      have cR := nread_arg hJ16 hu hn11 (N : Int) (.inr (Int.le_refl _))
      clear hJ16
      go_wp2_with fail
      refine cR.mono ?_
      rintro e w17 ⟨rfl, hJ17⟩
      clear cR
      go_wp2_with fail
      go_ret
      exact ⟨rfl, hJ17.b⟩

theorem walk (c d : Int) (b : Bool) (w : World) (hc0 : -9223372036854775808 ≤ c) (hc1 : c ≤ 9223372036854775807) (hd0 : -9223372036854775808 ≤ d) (hd1 : d ≤ 9223372036854775807) :
    Calls Try.prog 3 #[.int .i64 c, .int .i64 d, .bool b] w fun e w' => e = .returned (.bool true) ∧ Below w.heap.size w w' := by
  have h1 := pickI_bd c 60 (by omega)
  obtain ⟨n, hn⟩ := Int.eq_ofNat_of_zero_le (show 0 ≤ pickI c 60 + 8 by omega)
  have h2 := pickI_bd d (3 * (n : Int)) (by omega)
  obtain ⟨k, hk⟩ := Int.eq_ofNat_of_zero_le h2.1
  have hn' : pickI c 60 = (n : Int) - 8 := by omega
  have hn8 : 8 ≤ n := by omega
  have hn68 : n < 68 := by omega
  by_cases hkn : k < n
  · cases b with
    | true => exact down_dirty c d n k w hc0 hc1 hd0 hd1 hn' hn8 hn68 hk hkn
    | false =>
      by_cases h32 : n < 32
      · exact small_dirty c d n k w hc0 hc1 hd0 hd1 hn' hn8 hn68 hk hkn h32
      · by_cases hkN : k = n - 25
        · exact form_heading c d n k w hc0 hc1 hd0 hd1 hn' hn8 hn68 hk hkn (by omega) (n - 25) (show n = n - 25 + 25 by omega) hkN
        · exact form_home c d n k w hc0 hc1 hd0 hd1 hn' hn8 hn68 hk hkn (by omega) (n - 25) (show n = n - 25 + 25 by omega) hkN
  · cases b with
    | true => exact down_new c d n k w hc0 hc1 hd0 hd1 hn' hn8 hn68 hk hkn
    | false =>
      by_cases h32 : n < 32
      · exact small_new c d n k w hc0 hc1 hd0 hd1 hn' hn8 hn68 hk hkn h32
      · exact ok c d n k w hc0 hc1 hd0 hd1 hn' hn8 hn68 hk hkn (by omega) (n - 25) (show n = n - 25 + 25 by omega)

theorem own : ownKnob Try.prog.godebug = none := by kernel_rfl
theorem laidOut : laidOutB Try.prog = true := by kernel_rfl

set_option maxRecDepth 20000 in
theorem contract (H : Type) (enc : TypeId × Value → H) (W : World) (base : Nat) (args : Array Value) (ds gs : List (DataW H)) (before : List MemPlace)
    (hval : ∀ (j : Nat) t v, Try.f3.params[j]? = some t → args[j]? = some v → Value.okWide Try.prog W .any base t v)
    (hW : DataW.Whole enc Try.prog Try.f3.params.toList Rows.walMakesSpec.vars false W args.toList ds gs before) :
    Calls Try.prog 3 args W fun e W' => ∃ v, e = .returned v ∧ Rows.walMakesSpec.post enc Try.prog Try.f3 false true false false W args v W' := by
  have hW' := hW
  obtain ⟨p, q, hA0, hV, rfl, hfz, hnd⟩ := hW
  have hA : DataW.TrodAll enc Try.prog W 0 (fun _ => true) true Try.f3.params.toList args.toList ds p := hA0
  rw [Try.params3] at hA hval
  obtain ⟨v0, vs0, d0, ds0, p0, q0, hargs, rfl, rfl, h0, r0⟩ := trodAll_cons hA
  obtain ⟨v1, vs1, d1, ds1, p1, q1, rfl, rfl, rfl, h1, r1⟩ := trodAll_cons r0
  obtain ⟨v2, vs2, d2, ds2, p2, q2, rfl, rfl, rfl, h2, r2⟩ := trodAll_cons r1
  obtain ⟨rfl, rfl, rfl⟩ := trodAll_nil r2
  obtain rfl : args = #[v0, v1, v2] := by cases args; simp_all
  obtain ⟨rfl, rfl⟩ := trodVars_none hV
  have k0 := h0
  have lt0 : ∀ x ∈ p0, x.block < W.heap.size := by obtain ⟨m, hm⟩ := k0; exact DataW.trod_lt m _ _ _ hm
  have k1 := h1
  have lt1 : ∀ x ∈ p1, x.block < W.heap.size := by obtain ⟨m, hm⟩ := k1; exact DataW.trod_lt m _ _ _ hm
  have k2 := h2
  have lt2 : ∀ x ∈ p2, x.block < W.heap.size := by obtain ⟨m, hm⟩ := k2; exact DataW.trod_lt m _ _ _ hm
  obtain ⟨a0, rfl, rfl, rfl, w0⟩ := open_int Try.underlying3 (hval 0 3 v0 rfl rfl) h0
  obtain ⟨a1, rfl, rfl, rfl, w1⟩ := open_int Try.underlying3 (hval 1 3 v1 rfl rfl) h1
  obtain ⟨a2, rfl, rfl, rfl⟩ := open_bool Try.underlying4 (hval 2 4 v2 rfl rfl) h2
  clear hA0
  simp only [List.append_nil] at hW'
  refine (walk a0 a1 a2 W (wf_bd w0).1 (wf_bd w0).2 (wf_bd w1).1 (wf_bd w1).2).mono fun e W' ⟨he, bel⟩ => ?_
  subst he
  exact ⟨_, rfl, _, _, _, [], _, [], hW', trodAll_mk1 (shut_bool Try.underlying4 _), (trodAll_cons_mk (Below.trod laidOut (by kernel_rfl) (of_decide_eq_true (by kernel_rfl)) k0 bel lt0) (trodAll_cons_mk (Below.trod laidOut (by kernel_rfl) (of_decide_eq_true (by kernel_rfl)) k1 bel lt1) (trodAll_cons_mk (Below.trod laidOut (by kernel_rfl) (of_decide_eq_true (by kernel_rfl)) k2 bel lt2) trodAll_mk0))), rfl, bel.frame _, fun h => by cases h⟩

set_option maxRecDepth 100000 in
theorem lifted (os : Os) (started : os.Started) (H : Type) (enc : TypeId × Value → H) :
    ReturnsInHanded {} Try.checked os 3 .any (Rows.walMakesSpec.pre6 enc Try.prog Try.f3 Rows.walMakesRow.domain false) (Rows.walMakesSpec.post enc Try.prog Try.f3 false true false false) := by
  refine returnsInHanded_of_change (C := Try.checked) own started (by kernel_rfl) Try.func3
    (ChangeSpec.witness6 (enc := enc) (C := Try.checked) false ⟨#[], #[.int .i64 0, .int .i64 0, .bool false], []⟩ 8 (by kernel_rfl) (by kernel_rfl) (by kernel_rfl) (by kernel_rfl)) ?_
  intro W base args ds gs before hval hW _ _
  exact contract H enc W base args ds gs before hval hW

theorem holds : Rows.WalMakesSaid :=
  OpenClaim.holds_of_wide 3 Try.f3 rfl rfl rfl rfl rfl rfl rfl ⟨rfl, rfl, rfl, rfl, rfl⟩ rfl rfl rfl rfl rfl (by kernel_rfl) Try.func3 (by kernel_rfl)
    (of_decide_eq_true (by kernel_rfl)) (by unfold Func.isWrapper; first | (rw [if_pos (by decide +kernel)]; kernel_rfl) | (rw [if_neg (by decide +kernel)]; exact ⟨rfl, rfl⟩))
    (fun os started H enc _ => lifted os started H enc)
end Go.Proofs.Ytblhmfkohbdmeaa.walMakes
namespace Go.Proofs.Ytblhmfkohbdmeaa
theorem walMakes_holds : Rows.WalMakesSaid := walMakes.holds
#print axioms walMakes_holds
end Go.Proofs.Ytblhmfkohbdmeaa
