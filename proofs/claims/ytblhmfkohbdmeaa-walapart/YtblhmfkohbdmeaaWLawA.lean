/-
  The statements' own helpers: pick, Bytes, zero; Open and Commit as they are met there; begun.
-/
import Derived.Test.YtblhmfkohbdmeaaWalQ
namespace Go.Proofs.Ytblhmfkohbdmeaa
open Go.RowKit Go.Maps

theorem made64 : (madeCells (Value.cells (.int .u8 0)) (64 * 1)).toList = zeroC := by kernel_rfl
theorem row_all {w : World} {base g : Nat} {e : TypeId} {L : List Value} {n : Nat} (h : w.ownsRow base e 1 (.slice (some ⟨g, 0, none⟩) n n) n L) : w.heap[g]? = some (.cells L.toArray e) := by
  rcases h.2 with ⟨h1, _⟩ | ⟨g', cap, cur, h1, hb, hg, hn, _, hc, ht⟩
  · cases h1
  · cases h1
    rw [hg]
    have : cur.toList = L := by
      rw [List.take_of_length_le (by rw [Array.length_toList]; omega)] at ht
      exact ht
    rw [← this]

theorem ret_int {k : IntKind} {a b : Int} (h : a = b) : Ending.returned (.int k a) = .returned (.int k b) := by rw [h]

/-- pick: a number below n. -/
def pickI (c n : Int) : Int := (if c < 0 then -(c + 1) else c) % n

theorem pickI_bd (c n : Int) (hn : 0 < n) : 0 ≤ pickI c n ∧ pickI c n < n := by
  unfold pickI
  exact ⟨Int.emod_nonneg _ (by omega), Int.emod_lt_of_pos _ hn⟩

set_option maxHeartbeats 400000 in
theorem pick_any (c n : Int) (w : World) (h0 : -9223372036854775808 ≤ c) (h1 : c ≤ 9223372036854775807) (hn : 0 < n) (hn1 : n ≤ 9223372036854775807) :
    Calls Try.prog 9 #[.int .i64 c, .int .i64 n] w fun e w' => e = .returned (.int .i64 (pickI c n)) ∧ w' = w := by
  by_cases hc : c < 0
  · have e : pickI c n = -(c + 1) % n := by simp [pickI, hc]
    rw [e]
    clear e
    have h2 : 0 ≤ -(c + 1) := by omega
    go_enter Try.func9, Try.ntmps9
    go_wp2
    go_ret
    exact ⟨ret_int (by rw [← Int.neg_tmod, Int.tmod_eq_emod_of_nonneg h2]), rfl⟩
  · have e : pickI c n = c % n := by simp [pickI, hc]
    rw [e]
    clear e
    have h2 : 0 ≤ c := by omega
    go_enter Try.func9, Try.ntmps9
    go_wp2
    go_ret
    exact ⟨rfl, rfl⟩

/-- 64 bytes with the first k of x laid over them. -/
def fillTo (x : ByteArray) : Nat → Sec
  | 0 => zeroS
  | k + 1 => (fillTo x k).set (k % 64) ((fillTo x k).getD (k % 64) 0 ^^^ x.data.toList.getD k 0)

theorem fillTo_len (x : ByteArray) : ∀ k, (fillTo x k).length = 64
  | 0 => zeroS_len
  | k + 1 => by rw [fillTo, List.length_set]; exact fillTo_len x k

set_option maxRecDepth 20000 in
set_option maxHeartbeats 2000000 in
theorem bytes_any (x : ByteArray) (w : World) (hx : x.size ≤ maxLen) :
    Calls Try.prog 13 #[.string x] w fun e w' => e = .returned (.string (mk (fillTo x x.size))) ∧ Below w.heap.size w w' := by
  obtain ⟨i0, hi, hz0, hz1, hz2⟩ := info_parts Try.infoU
  have hb1 : i0.bytes * 64 ≤ 281474976710656 := by rw [hz2]; decide
  unfold maxLen at hx
  go_enter Try.func13, Try.ntmps13
  go_wp2_with (first | (at_make; refine wpList_make_full _ rfl _ _ 75 rfl w.heap.size 5 i0 (.int .u8 0) 1 Try.underlying75 hi hz0 hz1 _ _ _ _ 64 rfl rfl rfl rfl hb1 (by unfold maxLen; omega) (by simp) ?_; rw [made64]; intro w1 hown hg1; have hrow := row_all hown; clear hown; go_frame))
  have hO1 : Only [w.heap.size] w w1 := Only.of_grown hg1 (by simp)
  have hr0 : w1.heap[w.heap.size]? = some (.cells (bv (fillTo x 0)).toArray 5) := hrow
  clear hg1 hrow hb1 hi hz0 hz1 hz2
  go_loopw [4] (fun i wr => ∃ n : Nat, n ≤ x.size ∧ i = .int .i64 (n : Int) ∧ wr.heap[w.heap.size]? = some (.cells (bv (fillTo x n)).toArray 5) ∧ Only [w.heap.size] w1 wr)
    (fun i _ => x.size - (intOf i).toNat)
  case atStart => exact ⟨0, by omega, rfl, hr0, Only.refl _ _⟩
  case round =>
    obtain ⟨n, hn, rfl, hr, hO⟩ := hrel
    by_cases hlt : n < x.size
    · have hlt' : (n : Int) < (x.size : Int) := by omega
      obtain ⟨q, hq⟩ : ∃ q, q = n % 64 := ⟨_, rfl⟩
      have hq1 : q < 64 := by omega
      have hq2 : (q : Int) < 64 := by omega
      have htm : (n : Int).tmod 64 = (q : Int) := by rw [hq]; rfl
      have hc : wr.cell? ⟨w.heap.size, q, none⟩ = some (.int .u8 (((fillTo x n).getD q 0).toNat : Int)) := by
        rw [cell_at hr]
        simp [bv, List.getD, fillTo_len, hq1]
      have hf := frozen_at hr q
      have hxn : x.data.toList.getD n 0 = x[n] := by
        have hk : n < x.data.toList.length := by rw [Array.length_toList]; exact hlt
        rw [List.getD, List.getElem?_eq_getElem hk]
        rfl
      have hxo : bits .xor .u8 (((fillTo x n).getD q 0).toNat : Int) (x[n].toNat : Int) = ((((fillTo x n).getD q 0) ^^^ x[n]).toNat : Int) := by
        rw [u8_xor_nat _ _ (UInt8.toNat_lt _) (UInt8.toNat_lt _), UInt8.toNat_xor]
      have hnew := heap_setCell hr q (.int .u8 ((((fillTo x n).getD q 0) ^^^ x[n]).toNat : Int))
      have hstep : (bv (fillTo x n)).toArray.setIfInBounds q (.int .u8 ((((fillTo x n).getD q 0) ^^^ x[n]).toNat : Int)) = (bv (fillTo x (n + 1))).toArray := by
        apply Array.toList_inj.1
        simp only [Array.toList_setIfInBounds]
        rw [fillTo, ← hq, hxn]
        simp [bv, List.map_set]
      rw [hstep] at hnew
      clear hr hr0 hstep hxn hq
      generalize ((fillTo x n).getD q 0) = fb at *
      go_wp2_with fail
      refine region_tail 13 Try.mixed (by kernel_rfl) ?_
      simp only [List.take_succ_cons, List.take_zero, List.drop_succ_cons, List.drop_zero]
      iterate 13 still_step
      refine wpStill_nil ?_
      go_wp2
      go_roundw
      case rel => exact ⟨n + 1, by omega, by go_num, hnew, (hO.trans (Only.drew _ _)).trans (Only.setCell _ (by simp) _)⟩
      case measure => simp [intOf]; omega
    · obtain rfl : n = x.size := by omega
      have hlt' : ¬ (x.size : Int) < (x.size : Int) := by omega
      have hcv := conv_rowW (fillTo x x.size) (fillTo_len _ _) hr
      clear hr hr0
      go_wp2
      go_ret
      refine ⟨rfl, ?_⟩
      have s1 := hO1.size
      exact (hO1.below (Nat.le_refl _) (by simp)).trans (hO.below s1 (by simp))

set_option maxHeartbeats 400000 in
theorem lzero_any (w : World) : Calls Try.prog 22 #[] w fun e w' => e = .returned (.string (mk zeroS)) ∧ Below w.heap.size w w' := by
  have c : Calls Try.prog 13 #[.string ⟨#[]⟩] w fun e w' => e = .returned (.string (mk zeroS)) ∧ Below w.heap.size w w' := bytes_any ⟨#[]⟩ w (by decide)
  go_enter Try.func22, Try.ntmps22
  go_wp2_with (first | (go_at_call 13; refine c.mono ?_; rintro e w1 ⟨rfl, hb1⟩))
  go_ret
  exact ⟨rfl, hb1⟩

/-! ### Open, Commit -/
theorem fitE_of {s : DevS} (h : 32 ≤ s.n) : fitE s = if s.up then 0 else 3 := by
  unfold fitE
  cases hu : s.up with
  | false => simp
  | true => simp; omega

theorem Rest.same {N : Nat} {s : DevS} {x : Nat → Sec} (h : Rest N s x) (m : List UInt8) : Rest N (s.crashed m) x := by
  obtain ⟨l, hl, hh, hx⟩ := h.hd
  have hv : ∀ i, i < N + 25 → (s.crashed m).readAt i = s.readAt i := fun i hi => by
    rcases crash_view (s := s) m i with e | e
    · rw [e]; exact noKeys h.keys (by rw [h.n]; exact hi)
    · exact e
  have hs : ∀ k, k ≤ l.length → slotF (s.crashed m) N l k = slotF s N l k := by
    intro k
    induction k with
    | zero => intro _; rfl
    | succ k ih =>
      intro hk
      rw [slotF, slotF, ih (by omega), hv _ (by have := hl.len; omega)]
  refine ⟨h.n, crash_keys m, l, hl, by rw [hv N (by omega)]; exact hh, fun i hi => ?_⟩
  rw [hs _ (Nat.le_refl _), hv i (by omega)]
  exact hx i hi

/-- What an Open leaves. -/
structure Opened (N : Nat) (x : Nat → Sec) (s s' : DevS) : Prop where
  age : s'.age = s.age
  n : s'.n = N + 25
  rest : ∀ m, Rest N (s'.crashed m) x

theorem homeD_n (s : DevS) (f : SecF) (N : Nat) : (homeD s f N).2.n = s.n := by unfold homeD; rw [sync_n, write_n, sync_n, homeK_n]
theorem openD_n (s : DevS) (N : Nat) (l : List Nat) : (openD s N l).2.n = s.n := by
  unfold openD
  split
  · rfl
  · exact homeD_n _ _ _
theorem commitD_n (s : DevS) (N : Nat) (l : List WrD) : (commitD s N l).2.n = s.n := by
  unfold commitD
  split
  · exact sync_n _
  · rw [homeD_n, logD_n]

theorem wopen_any {w : World} {p bs bw N : Nat} {s : DevS} {x : Nat → Sec} (hd : IsDev w p bs bw s) (hR : Rest N s x) (h32 : 32 ≤ s.n) :
    Calls Try.prog 20 #[.pointer (some ⟨p, 0, none⟩)] w fun e w' => ∃ s', IsDev w' p bs bw s' ∧ Only [p, bs, bw] w w' ∧ Opened N x s s' ∧
      ((s.fuse ≠ -1 ∧ e = .returned (.tuple #[.pointer none, .int .i64 3])) ∨ ∃ r, e = .returned (.tuple #[.pointer (some ⟨r, 0, none⟩), .int .i64 0]) ∧ IsWal w' r p s.age false ∧ w.heap.size ≤ r ∧ Clean N x s' ∧ s'.keys = [] ∧ (s.fuse = -1 → s'.fuse = -1)) := by
  rcases up_cases s with hu | hu
  · have hf : fitE s = 3 := by rw [fitE_of h32, hu]; rfl
    refine (open_fit hd (by rw [hf]; decide)).mono fun e w' ⟨h1, h2⟩ => ⟨s, ?_, ?_, ⟨rfl, hR.n, hR.same⟩, .inl ⟨fun hfu => ?_, by rw [h1, hf]⟩⟩
    · rw [h2]; exact hd
    · rw [h2]; exact Only.refl _ _
    · rw [up_of hfu] at hu; cases hu
  · have hf : fitE s = 0 := by rw [fitE_of h32, hu]; rfl
    obtain ⟨l, hl, hh, hx⟩ := hR.hd
    obtain ⟨k1, k2, k3, k4⟩ := open_all hd hR l hl hh hx
    refine (open_go hd hf hR.n hR.keys l hl.len hl.lt hl.asc hh).mono fun e w' ⟨h1, h2, h3⟩ => ⟨_, h2, h3, ⟨k1, (openD_n _ _ _).trans hR.n, k3⟩, ?_⟩
    rcases h1 with ⟨ne, he⟩ | ⟨e0, r, he, hw', hr⟩
    · rcases k4 with ⟨e0, _⟩ | ⟨e3, _⟩
      · exact absurd e0 ne
      · exact .inl ⟨fun hfu => ne (k2 hfu).1, by rw [he, e3]⟩
    · rcases k4 with ⟨_, hc, hk⟩ | ⟨e3, _⟩
      · exact .inr ⟨r, he, hw', hr, hc, hk, fun hfu => (k2 hfu).2⟩
      · rw [e0] at e3; cases e3

/-- What a Commit that was cut off may leave. -/
def Cut (N : Nat) (lw : List WrD) (s s' : DevS) : Prop := ∀ m, ∃ y, Rest N (s'.crashed m) y ∧ ((∀ i, i < N → y i = put lw s.readAt i) ∨ ∀ i, i < N → y i = s.safeAt i ∨ y i = s.readAt i)

theorem apartE_zero {N : Nat} {lw : List WrD} (h : apartE N lw = 0) : OkW N lw ∧ lw.length ≤ 24 := by
  unfold apartE at h
  split at h
  · split at h
    · omega
    · exact ⟨by assumption, by omega⟩
  · omega

theorem wcommit_any {w : World} {r p bs bw N : Nat} {s : DevS} {v : Value} {lw : List WrD} (hw : IsWal w r p s.age false) (hd : IsDev w p bs bw s) (hu : s.up = true) (hn : s.n = N + 25) (hs : s.safeAt N = zeroS) (hr : s.readAt N = zeroS) (hv : RdWr w v lw) (hl : lw.length ≤ maxLen) (ho : ∀ o ∈ lw, o.Ok) (hE : apartE N lw = 0) :
    Calls Try.prog 28 #[.pointer (some ⟨r, 0, none⟩), v] w fun e w' => ∃ s', IsDev w' p bs bw s' ∧ Only [r, p, bs, bw] w w' ∧ s'.age = s.age ∧ s'.n = N + 25 ∧
      ((e = .returned (.int .i64 0) ∧ IsWal w' r p s.age false ∧ Clean N (put lw s.readAt) s' ∧ s'.keys = [] ∧ (s.fuse = -1 → s'.fuse = -1)) ∨ (s.fuse ≠ -1 ∧ e = .returned (.int .i64 3) ∧ IsWal w' r p s.age true ∧ s'.up = false ∧ lw ≠ [] ∧ Cut N lw s s')) := by
  obtain ⟨hok, h24⟩ := apartE_zero hE
  have hrd : rdy s s.age false = true := by simp [rdy, hu]
  obtain ⟨k1, k2, k3⟩ := commit_all hok h24 hu hn hs hr
  refine (commit_go hw hd hv hl ho hn hrd hE).mono fun e w' ⟨h1, h2, h3, h4⟩ => ⟨_, h3, h4, k1, (commitD_n _ _ _).trans hn, ?_⟩
  rcases k3 with ⟨e0, hc, hk⟩ | ⟨e3, hdn, hne, hcut⟩
  · rw [e0] at h1 h2
    exact .inl ⟨h1, h2, hc, hk, fun hfu => (k2 hfu).2⟩
  · rw [e3] at h1 h2
    exact .inr ⟨fun hfu => (by rw [(k2 hfu).1] at e3; cases e3), h1, h2, hdn, hne, hcut⟩
end Go.Proofs.Ytblhmfkohbdmeaa
