/-
  Decode.
-/
import Derived.Test.YtcdnlkhjlgaaoaaGreatDoorClV
import Derived.Test.YtcdnlkhjlgaaoaaGreatDoorDrB
import Derived.Deep.RegionLaw
namespace Go.Proofs.YtcdnlkhjlgaaoaaGreatDoor
open Go.ChangeShapes Go.WideShapes Go.ChangeAt Go.RowKit Go.PlainAid

/-- What was read is short. -/
theorem dec_in (s : ByteArray) : (decR s).1.length ≤ 3000 ∧ ∀ o ∈ (decR s).1, o.In := by
  unfold decR
  split
  · simp
  · rename_i hn
    have h0 : (pk.tk s 0 1125899906842624).2.2 = 0 := by omega
    rcases pk.tk_cases s 0 1125899906842624 with ⟨n, p, hr, -, -, hp, -⟩ | ⟨er, hr, her⟩
    · rw [hr] at hn ⊢
      simp only
      cases hg : decGo s (n : Int).toNat (p : Int) [] with
      | none => simp [decF]
      | some r =>
        obtain ⟨l, q⟩ := r
        unfold decF
        simp only
        split
        · simp
        · rename_i hc
          have hc0 : chk (l.map St.op) = 0 := by omega
          obtain ⟨m, e1, -, e2, -⟩ := decGo_of _ p [] l q hp hg
          rw [List.nil_append] at e1
          subst e1
          refine ⟨(kchk_any hc0).2, ?_⟩
          intro o ho
          simp only [List.mem_map] at ho
          obtain ⟨st, h1, rfl⟩ := ho
          exact raw_in (e2 st h1)
    · rw [hr] at h0
      simp only at h0
      omega
theorem dlt_in (s : ByteArray) (a : Int) (f : Bool) : (dltF s a f).1.length ≤ 3000 ∧ ∀ o ∈ (dltF s a f).1, o.In := by
  unfold dltF
  split
  · simp
  · exact dec_in _
theorem nu_bd (s : ByteArray) (a : Int) (f : Bool) : 0 ≤ (nuF s a f).1 ∧ (nuF s a f).1 ≤ 1125899906842624 := by
  cases f with
  | true => exact ⟨Int.le_refl _, by show (0 : Int) ≤ _; decide⟩
  | false =>
    simp only [nuF]
    rcases pk.tk_cases s a 1125899906842624 with ⟨n, p, hr, hn, -⟩ | ⟨er, hr, -⟩
    · rw [hr]; exact ⟨by simp, hn⟩
    · rw [hr]; exact ⟨Int.le_refl _, by show (0 : Int) ≤ _; decide⟩
theorem tx_bd (s : ByteArray) (a : Int) (f : Bool) : (txtF s a f).1.size ≤ 20000 := by
  by_cases h : (txtF s a f).2.2 = false
  · exact txtF_size h
  · cases f with
    | true => show ByteArray.size ⟨#[]⟩ ≤ _; decide
    | false =>
      simp only [txtF] at h ⊢
      unfold pk.tkT at h ⊢
      split
      · rename_i h1
        rw [if_pos h1] at h
        split
        · show ByteArray.size ⟨#[]⟩ ≤ _; decide
        · rename_i h2
          rw [if_neg h2] at h
          simp at h
      · show ByteArray.size ⟨#[]⟩ ≤ _; decide
/-- Reading edits. -/
def pdG (s : ByteArray) : Nat → Int → Int → Bool → List EdW × Int × Bool
  | 0, _, a, f => ([], a, f)
  | n + 1, q, a, f => (⟨q, (dltF s a f).1⟩ :: (pdG s n (q + 1) (dltF s a f).2.1 (dltF s a f).2.2).1, (pdG s n (q + 1) (dltF s a f).2.1 (dltF s a f).2.2).2)
/-- What is read, held against its own form. -/
def dcT (s : ByteArray) (E : EdD) (f : Bool) : EdD × Int := if f = true then (zeroE, 200) else if (encE E).2 = 0 ∧ (encE E).1 = s then (E, 0) else (zeroE, 200)
def dcN (s : ByteArray) (c b r : Int) (t : ByteArray) (q n a : Int) (f : Bool) : EdD × Int := if 8 < n then (zeroE, 200) else dcT s ⟨c, b, r, t, q, (pdG s n.toNat (q - n + 1) a f).1⟩ (pdG s n.toNat (q - n + 1) a f).2.2
/-- What Decode gives. -/
def dcC (s : ByteArray) : EdD × Int := match nuF s 0 false with
  | (c, a, f) => match nuF s a f with
    | (b, a, f) => match nuF s a f with
      | (r, a, f) => match txtF s a f with
        | (t, a, f) => match nuF s a f with
          | (q, a, f) => match nuF s a f with
            | (n, a, f) => dcN s c b r t q n a f
/-- Where Decode stands. -/
structure DcS (w : World) (s : ByteArray) (a : Int) (f : Bool) (W : World) : Prop where
  rr : RR W (w.heap.size + 1) s a f
  z : EB W w.heap.size zeroE (.slice none 0 0)
  b : Below w.heap.size w W
theorem DcS.call {w W W' : World} {s : ByteArray} {a a' : Int} {f f' : Bool} (h : DcS w s a f W) (hr : RR W' (w.heap.size + 1) s a' f') (hg : W.grownBy W' (some (w.heap.size + 1))) : DcS w s a' f' W' :=
  ⟨hr, blk_kept h.z hg (by omega), h.b.grown hg (by have := h.b.size; omega) (fun j hj => by cases hj; omega)⟩
theorem DcS.below {w W W' : World} {s : ByteArray} {a : Int} {f : Bool} (h : DcS w s a f W) (hb : Below W.heap.size W W') : DcS w s a f W' := ⟨h.rr.below hb, h.z.below hb, chain h.b hb⟩
theorem DcS.lt {w W : World} {s : ByteArray} {a : Int} {f : Bool} (h : DcS w s a f W) : w.heap.size + 1 < W.heap.size := EB.lt' h.rr
theorem dcs_new (w : World) (s : ByteArray) : DcS w s 0 false ((w.alloc (.cells (zeroE.fs (.slice none 0 0)) 24)).alloc (.cells #[.string s, .int .i64 0, .bool false] 46)) := by
  have h1 := heap_alloc_new (w.alloc (.cells (zeroE.fs (.slice none 0 0)) 24)) (.cells #[.string s, .int .i64 0, .bool false] 46)
  rw [World.size_alloc] at h1
  exact ⟨h1, (eb_new w zeroE (.slice none 0 0)).below (alloc_b _ _), chain (alloc_b _ _) (alloc_b _ _)⟩
/-- Decode's edits, on their way: its box lies at g. -/
structure DcE (w : World) (s : ByteArray) (g : Nat) (E : EdD) (a : Int) (f : Bool) (v : Value) (L : List EdW) (us : List Value) (W : World) : Prop where
  st : DcS w s a f W
  e : EB W g E v
  o : OwEd W (g + 1) v L us
  hg : w.heap.size + 1 < g
theorem grown_own {W W' : World} {B g e z n : Nat} {v : Value} {xs : List Value} {o : Obj} (h : W.heap[g]? = some o) (ho : W.ownsRow B e z v n xs) (hB : g < B) (hg : W.grownBy W' v.ownBlock) : W'.heap[g]? = some o := by
  refine (hg.block g (EB.lt' h) ?_).trans h
  intro hj
  have := (ho.lt g hj.symm).1
  omega
theorem dce_next {w W W' : World} {s : ByteArray} {g : Nat} {E : EdD} {a x : Int} {f : Bool} {v0 v9 u : Value} {L : List EdW} {us : List Value} {d : List OpD} (h : DcS w s a f W) (hE : EB W g E v0) (ho : OwEd W (g + 1) v0 L us) (hg : w.heap.size + 1 < g) (hu : W.ownsRow (g + 1) 59 3 u d.length (ocs d)) (ho9 : W'.ownsRow (g + 1) 41 2 v9 (L.length + 1) (ecs L us ++ [.int .i64 x, u])) (hg9 : W.grownBy W' v0.ownBlock) :
    DcE w s g E a f v9 (L ++ [⟨x, d⟩]) (us ++ [u]) (W'.setCell ⟨g, 5, none⟩ v9) := by
  have hs := h.b.size
  have k := fun n (hn : n ≠ g) => Below.heap_setCell W' ⟨g, 5, none⟩ v9 n (by simp only; omega)
  refine ⟨⟨(k _ (by omega)).trans (grown_own h.rr ho.row (by omega) hg9), (k _ (by omega)).trans (grown_own h.z ho.row (by omega) hg9), ?_⟩, heap_setCell (grown_own hE ho.row (by omega) hg9) 5 v9, (OwEd.app (e := ⟨x, d⟩) ho hu ho9 hg9).set (a := ⟨g, 5, none⟩) (by simp only; omega) v9, hg⟩
  exact (h.b.grown hg9 hs (fun j hj => by have := (ho.row.lt j hj).1; omega)).setCell (by simp only; omega) _

set_option maxRecDepth 20000 in
set_option maxHeartbeats 3000000 in
theorem cdecode_any (s : ByteArray) (w : World) (hs : s.size ≤ maxLen) (hV : VS w) :
    Calls Tryz.prog 7 #[.string s] w fun e w' => ∃ v us, e = .returned (.tuple #[.agg ((dcC s).1.fs v), .int .i64 (dcC s).2]) ∧ OwEd w' w.heap.size v (dcC s).1.p us ∧ Below w.heap.size w w' := by
  obtain ⟨i0, hin, hz0, hz1, hz2⟩ := info_parts Tryz.infoEd
  have h0 := dcs_new w s
  have cN := fun a f W (h : DcS w s a f W) => rnumC_any _ s a f W h.rr hs
  have cT := fun a f W (h : DcS w s a f W) => rtextC_any _ s a f W h.rr hs
  have c1 := cN 0 false
  rcases hx1 : nuF s 0 false with ⟨c, a1, f1⟩
  rw [hx1] at c1
  have c2 := cN a1 f1
  rcases hx2 : nuF s a1 f1 with ⟨b, a2, f2⟩
  rw [hx2] at c2
  have c3 := cN a2 f2
  rcases hx3 : nuF s a2 f2 with ⟨r, a3, f3⟩
  rw [hx3] at c3
  have c4 := cT a3 f3
  have ht := tx_bd s a3 f3
  rcases hx4 : txtF s a3 f3 with ⟨t, a4, f4⟩
  rw [hx4] at c4 ht
  have c5 := cN a4 f4
  have hq := nu_bd s a4 f4
  rcases hx5 : nuF s a4 f4 with ⟨q, a5, f5⟩
  rw [hx5] at c5 hq
  have c6 := cN a5 f5
  have hn := nu_bd s a5 f5
  rcases hx6 : nuF s a5 f5 with ⟨n, a6, f6⟩
  rw [hx6] at c6 hn
  have HC : dcC s = dcN s c b r t q n a6 f6 := by unfold dcC; simp only [hx1, hx2, hx3, hx4, hx5, hx6]
  rw [HC]
  simp only at c1 c2 c3 c4 c5 c6 ht hq hn
  clear hx1 hx2 hx3 hx4 hx5 hx6 cN cT HC
  obtain ⟨hq0, hq1⟩ := hq
  obtain ⟨hn0, hn1⟩ := hn
  obtain ⟨N, rfl⟩ : ∃ N : Nat, n = (N : Int) := ⟨n.toNat, by omega⟩
  obtain ⟨R, HR⟩ : ∃ R, Hid (dcN s c b r t q (N : Int) a6 f6 = R) := ⟨_, rfl⟩
  rw [HR.out]
  simp only [EdD.fs, zeroE] at h0
  go_enter Tryz.func7, Tryz.ntmps7
  go_wp2_with fail
  refine (c1 _ h0).mono ?_
  rintro e w1 ⟨rfl, hr1, hg1⟩
  have h1 := h0.call hr1 hg1
  clear h0 hr1 hg1 c1
  go_wp2_with fail
  refine (c2 _ h1).mono ?_
  rintro e w2 ⟨rfl, hr2, hg2⟩
  have h2 := h1.call hr2 hg2
  clear h1 hr2 hg2 c2
  go_wp2_with fail
  refine (c3 _ h2).mono ?_
  rintro e w3 ⟨rfl, hr3, hg3⟩
  have h3 := h2.call hr3 hg3
  clear h2 hr3 hg3 c3
  go_wp2_with fail
  refine (c4 _ h3).mono ?_
  rintro e w4 ⟨rfl, hr4, hg4⟩
  have h4 := h3.call hr4 hg4
  clear h3 hr4 hg4 c4
  go_wp2_with fail
  refine (c5 _ h4).mono ?_
  rintro e w5 ⟨rfl, hr5, hg5⟩
  have h5 := h4.call hr5 hg5
  clear h4 hr5 hg5 c5
  have hE := eb_new w5 ⟨c, b, r, t, q, []⟩ (.slice none 0 0)
  have hal := alloc_b w5 (.cells #[.int .i64 c, .int .i64 b, .int .i64 r, .string t, .int .i64 q, .slice none 0 0] 24)
  have h6 := h5.below hal
  have hgl := h5.lt
  clear h5
  go_wp2_with fail
  refine (c6 _ h6).mono ?_
  rintro e w7 ⟨rfl, hr7, hg7⟩
  have h7 := h6.call hr7 hg7
  have hE7 := blk_kept hE hg7 (by omega)
  clear h6 hr7 hg7 c6 hE hal
  generalize w5.heap.size = g at *
  have hD7 : DcE w s g ⟨c, b, r, t, q, []⟩ a6 f6 (.slice none 0 0) [] [] w7 := ⟨h7, hE7, OwEd.nil _ _, hgl⟩
  by_cases hbig : (8 : Int) < (N : Int)
  · have e : R = (zeroE, 200) := by rw [← HR.out, dcN, if_pos hbig]
    subst e
    clear HR
    obtain ⟨e0, e1, e2, e3, e4, e5⟩ := cellsEB h7.z
    obtain ⟨y0, y1, y2, y3, y4, y5⟩ := EB.frz h7.z
    go_wp2_with fail
    have hfin := h7.z.put zeroE (.slice none 0 0)
    refine bodyPost_ret (results_row_tmpC rfl _ _ w.heap.size 24 _ (0, 0) _ rfl hfin Tryz.underlying24 rfl Tryz.sizeEr) rfl ?_
    exact ⟨_, rfl, ⟨_, OwEd.nil _ _⟩, below_putE h7.b (Nat.le_refl _) zeroE (.slice none 0 0)⟩
  · have hN8 : N ≤ 8 := by omega
    have HR2 : Hid (dcT s ⟨c, b, r, t, q, (pdG s N (q - N + 1) a6 f6).1⟩ (pdG s N (q - N + 1) a6 f6).2.2 = R) := by
      show _ = _
      rw [← HR.out, dcN, if_neg hbig, Int.toNat_natCast]
    clear HR h7 hE7
    go_wp2_with fail
    go_loopw [23] (fun i wr => ∃ (k : Nat) (v : Value) (L : List EdW) (us : List Value) (a : Int) (f : Bool), k ≤ N ∧ i = .int .i64 (k : Int) ∧ DcE w s g ⟨c, b, r, t, q, []⟩ a f v L us wr ∧ Hid (L.length = k) ∧ (∀ e ∈ L, e.Fit) ∧ Hid (pdG s N (q - N + 1) a6 f6 = (L ++ (pdG s (N - k) (q - N + 1 + k) a f).1, (pdG s (N - k) (q - N + 1 + k) a f).2))) (fun i _ => N - (Go.RowKit.intOf i).toNat)
    case atStart => exact ⟨0, _, [], [], a6, f6, by omega, rfl, hD7, rfl, (fun e he => by cases he), (by show _ = _; simp)⟩
    case round =>
      obtain ⟨k, v, L, us, a, f, hk, rfl, hD, HL, hLF, HP⟩ := hrel
      obtain ⟨av, kv, rfl⟩ := own_form hD.o.row
      obtain ⟨x0, x1, x2, x3, x4, x5⟩ := cellsEB hD.e
      by_cases hlt : k < N
      · have hlt' : (k : Int) < (N : Int) := by omega
        have hDr : Below wr.heap.size wr wr.drew := (Below.refl _ wr).drew
        have cD := rdeltaC_any _ s a f wr.drew (hD.st.below hDr).rr hs
        have hw1 : IntKind.i64.wrap (q - N) = q - N := by rw [IntKind.wrap_i64]; omega
        have hw2 : IntKind.i64.wrap (q - N + 1) = q - N + 1 := by rw [IntKind.wrap_i64]; omega
        have hw3 : IntKind.i64.wrap (q - N + 1 + k) = q - N + 1 + k := by rw [IntKind.wrap_i64]; omega
        have hdi := dlt_in s a f
        have HP2 : Hid (pdG s N (q - N + 1) a6 f6 = (L ++ [(⟨q - N + 1 + k, (dltF s a f).1⟩ : EdW)] ++ (pdG s (N - (k + 1)) (q - N + 1 + (k + 1 : Nat)) (dltF s a f).2.1 (dltF s a f).2.2).1, (pdG s (N - (k + 1)) (q - N + 1 + (k + 1 : Nat)) (dltF s a f).2.1 (dltF s a f).2.2).2)) := by
          show _ = _
          rw [HP.out, show N - k = (N - (k + 1)) + 1 by omega, pdG]
          simp only [List.append_assoc, List.singleton_append, Int.natCast_add, Int.natCast_one, Int.add_assoc]
        generalize dltF s a f = D at *
        clear HP HR2
        go_upto_region 9 with fail
        go_region_law (first
          | (go_simp; go_at_call 21; refine cD.mono ?_; rintro e w8 ⟨u, rfl, hou, hr8, hg8⟩; have h8 := (hD.st.below hDr).call hr8 hg8; have hE8 : EB w8 g ⟨c, b, r, t, q, []⟩ (.slice av L.length kv) := blk_kept (hD.e.below hDr) hg8 (by have := hD.hg; omega); obtain ⟨au, ku, rfl⟩ := own_form hou; obtain ⟨z0, z1, z2, z3, z4, z5⟩ := cellsEB hE8; have ho8 := (hD.o.below hDr).keptB hg8 (by have := hD.hg; omega); have hal := alloc_b w8 (.cells #[.int .i64 (q - N + 1 + k), .slice au D.1.length ku] 41); have hEa := hE8.below hal; obtain ⟨r0, r1, r2, r3, r4, r5⟩ := cellsEB hEa; have hoE := ho8.below hal; have hoU := own_lower (own_belowG hou hal) (b' := g + 1) (EB.lt' hD.e))
          | (refine step_append_lies _ (by rfl) (.tmp 27) (.tmp 37) 22 (by rfl) (g + 1) 41 i0 (.agg #[.int .i64 0, .slice none 0 0]) 2 32 Tryz.underlying22 hin hz0 hz1 hz2 rfl (by decide) _ L.length _ (by rfl) hoE.row ⟨_, 0, none⟩ 1 1 [.int .i64 (q - N + 1 + k), .slice au D.1.length ku] (by rfl) rfl (many_new _ _ _) (two_one _ _ _ _) (by decide) (by have := HL.out; unfold maxLen; omega) (by have := HL.out; omega) (by have := EB.lt' hE8; rw [World.size_alloc]; omega) _ rfl ?_; intro g9 cap9 w9 ho9 hg9 hgg hgl; have hE9 := grown_own (hE8.below hal) hoE.row (Nat.lt_succ_self _) hg9; have hD9 := dce_next (h8.below hal) (hE8.below hal) hoE hD.hg hoU ho9 hg9; obtain ⟨p0, p1, p2, p3, p4, p5⟩ := cellsEB hE9; have p6 := frz hE9 5))
        all_goals go_wp2_with fail
        all_goals exact ⟨⟨k + 1, _, _, _, _, _, by omega, by go_num, hD9, (by show _ = _; have := HL.out; simp; omega), (fun e he => (List.mem_append.1 he).elim (hLF e) (fun he => by rw [List.mem_singleton.1 he]; exact ⟨by simp only; omega, by simp only; omega, by simp only; unfold maxLen; omega, hdi.2⟩)), HP2⟩, by simp [Go.RowKit.intOf]; omega⟩
      · have hlt' : ¬ (k : Int) < (N : Int) := by omega
        have HM : Hid (pdG s N (q - N + 1) a6 f6 = (L, a, f)) := by
          show _ = _
          have hkN : N - k = 0 := by omega
          rw [HP.out, hkN, pdG]
          simp
        have HR3 : Hid (dcT s ⟨c, b, r, t, q, L⟩ f = R) := by show _ = _; rw [← HR2.out, HM.out]
        obtain ⟨y0, y1, y2⟩ := cellsRR hD.st.rr
        clear HP HR2 HM
        cases f with
        | true =>
          have e : R = (zeroE, 200) := by rw [← HR3.out, dcT, if_pos rfl]
          subst e
          clear HR3
          obtain ⟨e0, e1, e2, e3, e4, e5⟩ := cellsEB hD.st.z
          obtain ⟨q0, q1, q2, q3, q4, q5⟩ := EB.frz hD.st.z
          go_wp2_with fail
          have hfin := hD.st.z.put zeroE (.slice none 0 0)
          refine bodyPost_ret (results_row_tmpC rfl _ _ w.heap.size 24 _ (0, 0) _ rfl hfin Tryz.underlying24 rfl Tryz.sizeEr) rfl ?_
          exact ⟨_, rfl, ⟨_, OwEd.nil _ _⟩, below_putE hD.st.b (Nat.le_refl _) zeroE (.slice none 0 0)⟩
        | false =>
          have hF : EdD.Fit ⟨c, b, r, t, q, L⟩ := ⟨by simp only; omega, by simp only; omega, by simp only; omega, by have := HL.out; simp only; unfold maxLen; omega, hLF⟩
          have cE := cencode_any ⟨c, b, r, t, q, L⟩ (.slice av L.length kv) wr hD.o.rd (hV.below hD.st.b) hF
          simp only [EdD.fs] at cE
          have HR4 : Hid ((if (encE ⟨c, b, r, t, q, L⟩).2 = 0 ∧ (encE ⟨c, b, r, t, q, L⟩).1 = s then (⟨c, b, r, t, q, L⟩, 0) else (zeroE, 200)) = R) := by show _ = _; rw [← HR3.out]; rfl
          generalize encE ⟨c, b, r, t, q, L⟩ = X at *
          clear HR3 hF hLF HL
          go_wp2_with fail
          refine cE.mono ?_
          rintro e w8 ⟨rfl, hb8⟩
          have h8 := hD.st.below hb8
          have hE8 := hD.e.below hb8
          have ho8 := hD.o.below hb8
          have hgg := hD.hg
          clear cE hD hb8 x0 x1 x2 x3 x4 x5 y0 y1 y2
          by_cases g1 : X.2 = 0
          · have n1 : (X.2 != 0) = false := by rw [g1]; rfl
            by_cases g2 : X.1 = s
            · have e : R = (⟨c, b, r, t, q, L⟩, 0) := by rw [← HR4.out, if_pos ⟨g1, g2⟩]
              subst e
              clear HR4 g1
              obtain ⟨x0, x1, x2, x3, x4, x5⟩ := cellsEB hE8
              obtain ⟨e0, e1, e2, e3, e4, e5⟩ := cellsEB h8.z
              obtain ⟨q0, q1, q2, q3, q4, q5⟩ := EB.frz h8.z
              go_wp2_with fail
              have hfin := h8.z.put ⟨c, b, r, t, q, L⟩ (.slice av L.length kv)
              refine bodyPost_ret (results_row_tmpC rfl _ _ w.heap.size 24 _ (0, 0) _ rfl hfin Tryz.underlying24 rfl Tryz.sizeEr) rfl ?_
              refine ⟨_, rfl, ⟨us, ?_⟩, below_putE h8.b (Nat.le_refl _) ⟨c, b, r, t, q, L⟩ _⟩
              refine OwEd.lower (B := g + 1) ?_ (by omega)
              exact (((((ho8.set (a := ⟨w.heap.size, 0, none⟩) (by simp only; omega) _).set (a := ⟨w.heap.size, 1, none⟩) (by simp only; omega) _).set (a := ⟨w.heap.size, 2, none⟩) (by simp only; omega) _).set (a := ⟨w.heap.size, 3, none⟩) (by simp only; omega) _).set (a := ⟨w.heap.size, 4, none⟩) (by simp only; omega) _).set (a := ⟨w.heap.size, 5, none⟩) (by simp only; omega) _
            · have e : R = (zeroE, 200) := by rw [← HR4.out, if_neg (fun h => g2 h.2)]
              subst e
              clear HR4 g1
              have g3 := str_neC g2
              have g4 : (X.1.toList == s.toList) = false := beq_eq_false_iff_ne.2 g3
              obtain ⟨e0, e1, e2, e3, e4, e5⟩ := cellsEB h8.z
              obtain ⟨q0, q1, q2, q3, q4, q5⟩ := EB.frz h8.z
              go_wp2_with fail
              have hfin := h8.z.put zeroE (.slice none 0 0)
              refine bodyPost_ret (results_row_tmpC rfl _ _ w.heap.size 24 _ (0, 0) _ rfl hfin Tryz.underlying24 rfl Tryz.sizeEr) rfl ?_
              exact ⟨_, rfl, ⟨_, OwEd.nil _ _⟩, below_putE h8.b (Nat.le_refl _) zeroE (.slice none 0 0)⟩
          · have e : R = (zeroE, 200) := by rw [← HR4.out, if_neg (fun h => g1 h.1)]
            subst e
            clear HR4
            have n1 : (X.2 != 0) = true := bne_iff_ne.2 g1
            obtain ⟨e0, e1, e2, e3, e4, e5⟩ := cellsEB h8.z
            obtain ⟨q0, q1, q2, q3, q4, q5⟩ := EB.frz h8.z
            go_wp2_with fail
            have hfin := h8.z.put zeroE (.slice none 0 0)
            refine bodyPost_ret (results_row_tmpC rfl _ _ w.heap.size 24 _ (0, 0) _ rfl hfin Tryz.underlying24 rfl Tryz.sizeEr) rfl ?_
            exact ⟨_, rfl, ⟨_, OwEd.nil _ _⟩, below_putE h8.b (Nat.le_refl _) zeroE (.slice none 0 0)⟩
end Go.Proofs.YtcdnlkhjlgaaoaaGreatDoor
