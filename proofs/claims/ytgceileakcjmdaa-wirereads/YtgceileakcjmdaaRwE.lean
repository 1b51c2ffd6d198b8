/-
  The reference: the walk of Decode.
-/
import Derived.Test.YtgceileakcjmdaaRwD
import Derived.Test.YtgceileakcjmdaaRwC
namespace Go.Proofs.Ytgceileakcjmdaa
open Go.ChangeShapes Go.WideShapes Go.ChangeAt Go.RowKit Go.PlainAid

theorem fld_at (p q : Nat) (h : q < 6) : (ptV p [0, 1, 2, 4, 5, 3])[q]? = some (.pointer (some ⟨p, fld q, none⟩)) := by
  match q, h with
  | 0, _ | 1, _ | 2, _ | 3, _ | 4, _ | 5, _ => rfl
theorem rfG_skip {s : ByteArray} {q : Nat} {m : MsD} {a : Int} {o : Bool} (h : rfG s q = (m, a, o)) (hk : skp q m.k = true) : rfG s (q + 1) = (m, a, o) := by
  rw [rfG, h]; exact rfS_skip hk
theorem rfG_yes {s : ByteArray} {q : Nat} {m : MsD} {a : Int} {o : Bool} (h : rfG s q = (m, a, o)) (hk : skp q m.k = false) (h0 : (pk.tk s a big).2.2 = 0) : rfG s (q + 1) = (m.set (fld q) (pk.tk s a big).1, (pk.tk s a big).2.1, o) := by
  rw [rfG, h, rfS]; simp only [hk, Bool.false_eq_true, if_false]; rw [if_pos h0]
theorem rfG_no {s : ByteArray} {q : Nat} {m : MsD} {a : Int} {o : Bool} (h : rfG s q = (m, a, o)) (hk : skp q m.k = false) (h0 : (pk.tk s a big).2.2 ≠ 0) : rfG s (q + 1) = (m, a, false) := by
  rw [rfG, h, rfS]; simp only [hk, Bool.false_eq_true, if_false]; rw [if_neg h0]

theorem str_ne {a b : ByteArray} (h : ¬ a = b) : (a.toList == b.toList) = false :=
  beq_eq_false_iff_ne.2 (fun e => h (by rw [Go.ByteArray.toList_eq, Go.ByteArray.toList_eq] at e; exact ByteArray.ext (Array.toList_inj.1 e)))
theorem dec_sm (s : ByteArray) : ∀ o ∈ (decR s).1, o.Sm := by
  unfold decR
  split
  · simp
  · rename_i hn
    have h0 : (pk.tk s 0 1125899906842624).2.2 = 0 := by omega
    rcases pk.tk_cases s 0 1125899906842624 with ⟨n, p, hr, -, -, hp, -⟩ | ⟨er, hr, her⟩
    · rw [hr] at hn ⊢
      simp only
      cases hg : decGo s (n : Int).toNat (p : Int) [] with
      | none => simp [decF]
      | some r =>
        obtain ⟨l, q⟩ := r
        unfold decF
        simp only
        split
        · simp
        · obtain ⟨m, e1, -, e2, -⟩ := decGo_of _ p [] l q hp hg
          rw [List.nil_append] at e1
          subst e1
          intro o ho
          simp only [List.mem_map] at ho
          obtain ⟨st, h1, rfl⟩ := ho
          have hraw := e2 st h1
          cases st with
          | keep n => show ByteArray.size ⟨#[]⟩ ≤ _; decide
          | rem n => show ByteArray.size ⟨#[]⟩ ≤ _; decide
          | ins t => simp only [St.Raw] at hraw; show t.size ≤ _; omega
    · rw [hr] at h0
      simp only at h0
      omega

/-- The memory of the loop: the answer's box, the message's, the row of pointers. -/
structure FL (w W : World) (m : MsD) (v : Value) : Prop where
  res : W.heap[w.heap.size]? = some (.cells #[.int .i64 0, .int .i64 0, .int .i64 0, .int .i64 0, .int .i64 0, .int .i64 0, .slice none 0 0] 24)
  box : MB W (w.heap.size + 1) m v
  row : W.heap[w.heap.size + 1 + 1]? = some (.cells (ptV (w.heap.size + 1) [0, 1, 2, 4, 5, 3]).toArray 42)
  bel : Below w.heap.size w W
theorem FL.below {w W W' : World} {m : MsD} {v : Value} (h : FL w W m v) (hb : Below W.heap.size W W') : FL w W' m v :=
  ⟨(hb.block _ (heap_lt h.res)).trans h.res, h.box.below hb, (hb.block _ (heap_lt h.row)).trans h.row, h.bel.trans (hb.mono h.bel.size)⟩
theorem FL.put {w W : World} {m : MsD} {v : Value} (h : FL w W m v) (f : Nat) (hf : f ≤ 5) (x : Int) : FL w (W.setCell ⟨w.heap.size + 1, f, none⟩ (.int .i64 x)) (m.set f x) v :=
  ⟨(Below.heap_setCell W ⟨w.heap.size + 1, f, none⟩ _ _ (by simp)).trans h.res, mb_set h.box f hf x, (Below.heap_setCell W ⟨w.heap.size + 1, f, none⟩ _ _ (by simp)).trans h.row, below_set h.bel (by omega) h.bel.size⟩
theorem FL.putD {w W : World} {m : MsD} {v : Value} (h : FL w W m v) (u : Value) (d : List OpD) : FL w (W.setCell ⟨w.heap.size + 1, 6, none⟩ u) { m with d := d } u :=
  ⟨(Below.heap_setCell W ⟨w.heap.size + 1, 6, none⟩ _ _ (by simp)).trans h.res, mb_d h.box u d, (Below.heap_setCell W ⟨w.heap.size + 1, 6, none⟩ _ _ (by simp)).trans h.row, below_set h.bel (by omega) h.bel.size⟩
theorem FL.ptr {w W : World} {m : MsD} {v : Value} (h : FL w W m v) (q : Nat) (hq : q < 6) : W.cell? ⟨w.heap.size + 1 + 1, q, none⟩ = some (.pointer (some ⟨w.heap.size + 1, fld q, none⟩)) := by
  rw [cell_of_row _ _ q _ _ (0, 0) h.row]
  simpa using fld_at (w.heap.size + 1) q hq
theorem fl_begin (w : World) : FL w (((w.alloc (.cells #[.int .i64 0, .int .i64 0, .int .i64 0, .int .i64 0, .int .i64 0, .int .i64 0, .slice none 0 0] 24)).alloc (.cells #[.int .i64 0, .int .i64 0, .int .i64 0, .int .i64 0, .int .i64 0, .int .i64 0, .slice none 0 0] 24)).alloc (.cells (ptV (w.heap.size + 1) [0, 1, 2, 4, 5, 3]).toArray 42)) zM (.slice none 0 0) := by
  have s1 : (w.alloc (.cells #[.int .i64 0, .int .i64 0, .int .i64 0, .int .i64 0, .int .i64 0, .int .i64 0, .slice none 0 0] 24)).heap.size = w.heap.size + 1 := by simp
  have s2 : ((w.alloc (.cells #[.int .i64 0, .int .i64 0, .int .i64 0, .int .i64 0, .int .i64 0, .int .i64 0, .slice none 0 0] 24)).alloc (.cells #[.int .i64 0, .int .i64 0, .int .i64 0, .int .i64 0, .int .i64 0, .int .i64 0, .slice none 0 0] 24)).heap.size = w.heap.size + 1 + 1 := by simp
  have h0 : MB _ _ zM (.slice none 0 0) := heap_alloc_new w (.cells #[.int .i64 0, .int .i64 0, .int .i64 0, .int .i64 0, .int .i64 0, .int .i64 0, .slice none 0 0] 24)
  have h1 : MB _ _ zM (.slice none 0 0) := heap_alloc_new (w.alloc (.cells #[.int .i64 0, .int .i64 0, .int .i64 0, .int .i64 0, .int .i64 0, .int .i64 0, .slice none 0 0] 24)) (.cells #[.int .i64 0, .int .i64 0, .int .i64 0, .int .i64 0, .int .i64 0, .int .i64 0, .slice none 0 0] 24)
  have h2 := heap_alloc_new ((w.alloc (.cells #[.int .i64 0, .int .i64 0, .int .i64 0, .int .i64 0, .int .i64 0, .int .i64 0, .slice none 0 0] 24)).alloc (.cells #[.int .i64 0, .int .i64 0, .int .i64 0, .int .i64 0, .int .i64 0, .int .i64 0, .slice none 0 0] 24)) (.cells (ptV (w.heap.size + 1) [0, 1, 2, 4, 5, 3]).toArray 42)
  rw [s1] at h1
  rw [s2] at h2
  exact ⟨(h0.alloc _).alloc _, h1.alloc _, h2, (((Below.refl _ w).alloc (Nat.le_refl _) _).alloc (by rw [heap_alloc_size]; omega) _).alloc (by rw [heap_alloc_size, heap_alloc_size]; omega) _⟩

set_option maxRecDepth 20000 in
set_option maxHeartbeats 6000000 in
theorem rdecode_any (s : ByteArray) (w : World) (hs : s.size ≤ maxLen) :
    Calls Try.prog 12 #[.string s] w fun e w' => ∃ u, e = .returned (.tuple #[.agg ((wdR s).1.fs u), .int .i64 (wdR s).2]) ∧ RdD w' u (wdR s).1.d ∧ Below w.heap.size w w' := by
  have hF := fl_begin w
  simp only [ptV, List.map_cons, List.map_nil] at hF
  have HW : Hid (wdR s = rfR s) := (ref_wd s).symm
  have hone0 : ((#[.int .i64 0, .int .i64 0, .int .i64 0, .int .i64 0, .int .i64 0, .int .i64 0, .slice none 0 0] : Array Value).all (·.oneCell')) = true := fs_one zM (.slice none 0 0) rfl
  have h70 : (#[.int .i64 0, .int .i64 0, .int .i64 0, .int .i64 0, .int .i64 0, .int .i64 0, .slice none 0 0] : Array Value).size = 7 := rfl
  go_enter Try.func12, Try.ntmps12
  go_wp2_with fail
  generalize ((w.alloc _).alloc _).alloc _ = w0 at *
  go_loopw [5, 6, 8] (fun x y i wr => ∃ (q : Nat) (m : MsD) (a : Int) (o : Bool), q ≤ 6 ∧ x = .int .i64 a ∧ y = .bool o ∧ i = .int .i64 (q : Int) ∧ rfG s q = (m, a, o) ∧ FL w wr m (.slice none 0 0)) (fun _ _ i _ => 6 - (intOf i).toNat)
  case atStart => exact ⟨0, zM, 0, true, by omega, rfl, rfl, rfl, rfl, hF⟩
  case round =>
    obtain ⟨q, m, a, o, hq, rfl, rfl, rfl, hG, hL⟩ := hrel
    clear hF
    have HG : Hid (rfG s q = (m, a, o)) := hG
    clear hG
    by_cases hlt : q < 6
    · have hlt' : (q : Int) < 6 := by omega
      have ck := hL.box.cells.1
      have cp := hL.ptr q hlt
      have cf := hL.box.cell (fld q) (fld_le q)
      have zf := frz hL.box (fld q)
      have ht := pk.refNum_any s a wr hs
      have hP := hL.put (fld q) (fld_le q) (pk.tk s a big).1
      by_cases q4 : q = 4
      · subst q4
        by_cases k3 : m.k = 3
        · have HK : Hid (skp 4 m.k = false) := by show _ = _; rw [k3]; rfl
          rw [k3] at ck
          clear k3
          have H1 : Hid ((pk.tk s a big).2.2 = 0 → rfG s (4 + 1) = (m.set (fld 4) (pk.tk s a big).1, (pk.tk s a big).2.1, o)) := fun h => rfG_yes HG.out HK.out h
          have H2 : Hid ((pk.tk s a big).2.2 ≠ 0 → rfG s (4 + 1) = (m, a, false)) := fun h => rfG_no HG.out HK.out h
          clear HG HK
          generalize fld 4 = f at *
          generalize pk.tk s a big = R at *
          obtain ⟨r1, r2, r3⟩ := R
          simp only at ht H1 H2 hP
          by_cases h0 : r3 = 0
          · subst h0
            have H4 : Hid (rfG s (4 + 1) = (m.set f r1, r2, o)) := H1.out rfl
            clear H1 H2
            cases o
            · go_wp2_with fail
              refine ht.mono ?_
              rintro e w1 ⟨rfl, rfl⟩
              clear ht
              go_wp2_with fail
              go_roundw
              case rel => exact ⟨4 + 1, _, _, _, by omega, rfl, rfl, by go_num, H4.out, hP⟩
              case measure => first | (simp [intOf]; done) | (simp [intOf]; omega)
            · go_wp2_with fail
              refine ht.mono ?_
              rintro e w1 ⟨rfl, rfl⟩
              clear ht
              go_wp2_with fail
              go_roundw
              case rel => exact ⟨4 + 1, _, _, _, by omega, rfl, rfl, by go_num, H4.out, hP⟩
              case measure => first | (simp [intOf]; done) | (simp [intOf]; omega)
          have H4 : Hid (rfG s (4 + 1) = (m, a, false)) := H2.out h0
          clear H1 H2
          cases o
          · go_wp2_with fail
            refine ht.mono ?_
            rintro e w1 ⟨rfl, rfl⟩
            clear ht
            go_wp2_with fail
            go_roundw
            case rel => exact ⟨4 + 1, _, _, _, by omega, rfl, rfl, by go_num, H4.out, hL⟩
            case measure => first | (simp [intOf]; done) | (simp [intOf]; omega)
          · go_wp2_with fail
            refine ht.mono ?_
            rintro e w1 ⟨rfl, rfl⟩
            clear ht
            go_wp2_with fail
            go_roundw
            case rel => exact ⟨4 + 1, _, _, _, by omega, rfl, by simp [h0], by go_num, H4.out, hL⟩
            case measure => first | (simp [intOf]; done) | (simp [intOf]; omega)
        · have HK : Hid (skp 4 m.k = true) := by show _ = _; simp [skp, k3]
          have H4 : Hid (rfG s (4 + 1) = (m, a, o)) := rfG_skip HG.out HK.out
          clear HG HK hP ht
          go_wp2_with fail
          go_roundw
          case rel => exact ⟨4 + 1, _, _, _, by omega, rfl, rfl, by go_num, H4.out, hL⟩
          case measure => first | (simp [intOf]; done) | (simp [intOf]; omega)
      by_cases q5 : q = 5
      · subst q5
        by_cases k2 : m.k = 2
        · have HK : Hid (skp 5 m.k = true) := by show _ = _; rw [k2]; rfl
          rw [k2] at ck
          clear k2 q4
          have H4 : Hid (rfG s (5 + 1) = (m, a, o)) := rfG_skip HG.out HK.out
          clear HG HK hP ht
          go_wp2_with fail
          go_roundw
          case rel => exact ⟨5 + 1, _, _, _, by omega, rfl, rfl, by go_num, H4.out, hL⟩
          case measure => first | (simp [intOf]; done) | (simp [intOf]; omega)
        · have HK : Hid (skp 5 m.k = false) := by show _ = _; simp [skp, k2]
          clear q4
          have H1 : Hid ((pk.tk s a big).2.2 = 0 → rfG s (5 + 1) = (m.set (fld 5) (pk.tk s a big).1, (pk.tk s a big).2.1, o)) := fun h => rfG_yes HG.out HK.out h
          have H2 : Hid ((pk.tk s a big).2.2 ≠ 0 → rfG s (5 + 1) = (m, a, false)) := fun h => rfG_no HG.out HK.out h
          clear HG HK
          generalize fld 5 = f at *
          generalize pk.tk s a big = R at *
          obtain ⟨r1, r2, r3⟩ := R
          simp only at ht H1 H2 hP
          by_cases h0 : r3 = 0
          · subst h0
            have H4 : Hid (rfG s (5 + 1) = (m.set f r1, r2, o)) := H1.out rfl
            clear H1 H2
            cases o
            · go_wp2_with fail
              refine ht.mono ?_
              rintro e w1 ⟨rfl, rfl⟩
              clear ht
              go_wp2_with fail
              go_roundw
              case rel => exact ⟨5 + 1, _, _, _, by omega, rfl, rfl, by go_num, H4.out, hP⟩
              case measure => first | (simp [intOf]; done) | (simp [intOf]; omega)
            · go_wp2_with fail
              refine ht.mono ?_
              rintro e w1 ⟨rfl, rfl⟩
              clear ht
              go_wp2_with fail
              go_roundw
              case rel => exact ⟨5 + 1, _, _, _, by omega, rfl, rfl, by go_num, H4.out, hP⟩
              case measure => first | (simp [intOf]; done) | (simp [intOf]; omega)
          have H4 : Hid (rfG s (5 + 1) = (m, a, false)) := H2.out h0
          clear H1 H2
          cases o
          · go_wp2_with fail
            refine ht.mono ?_
            rintro e w1 ⟨rfl, rfl⟩
            clear ht
            go_wp2_with fail
            go_roundw
            case rel => exact ⟨5 + 1, _, _, _, by omega, rfl, rfl, by go_num, H4.out, hL⟩
            case measure => first | (simp [intOf]; done) | (simp [intOf]; omega)
          · go_wp2_with fail
            refine ht.mono ?_
            rintro e w1 ⟨rfl, rfl⟩
            clear ht
            go_wp2_with fail
            go_roundw
            case rel => exact ⟨5 + 1, _, _, _, by omega, rfl, by simp [h0], by go_num, H4.out, hL⟩
            case measure => first | (simp [intOf]; done) | (simp [intOf]; omega)
      have HK : Hid (skp q m.k = false) := by show _ = _; simp [skp, q4, q5]
      have qi4 : ¬ (q : Int) = 4 := by omega
      have qi5 : ¬ (q : Int) = 5 := by omega
      clear q4 q5
      have H1 : Hid ((pk.tk s a big).2.2 = 0 → rfG s (q + 1) = (m.set (fld q) (pk.tk s a big).1, (pk.tk s a big).2.1, o)) := fun h => rfG_yes HG.out HK.out h
      have H2 : Hid ((pk.tk s a big).2.2 ≠ 0 → rfG s (q + 1) = (m, a, false)) := fun h => rfG_no HG.out HK.out h
      clear HG HK
      generalize fld q = f at *
      generalize pk.tk s a big = R at *
      obtain ⟨r1, r2, r3⟩ := R
      simp only at ht H1 H2 hP
      by_cases h0 : r3 = 0
      · subst h0
        have H4 : Hid (rfG s (q + 1) = (m.set f r1, r2, o)) := H1.out rfl
        clear H1 H2
        cases o
        · go_wp2_with fail
          refine ht.mono ?_
          rintro e w1 ⟨rfl, rfl⟩
          clear ht
          go_wp2_with fail
          go_roundw
          case rel => exact ⟨q + 1, _, _, _, by omega, rfl, rfl, by go_num, H4.out, hP⟩
          case measure => first | (simp [intOf]; done) | (simp [intOf]; omega)
        · go_wp2_with fail
          refine ht.mono ?_
          rintro e w1 ⟨rfl, rfl⟩
          clear ht
          go_wp2_with fail
          go_roundw
          case rel => exact ⟨q + 1, _, _, _, by omega, rfl, rfl, by go_num, H4.out, hP⟩
          case measure => first | (simp [intOf]; done) | (simp [intOf]; omega)
      have H4 : Hid (rfG s (q + 1) = (m, a, false)) := H2.out h0
      clear H1 H2
      cases o
      · go_wp2_with fail
        refine ht.mono ?_
        rintro e w1 ⟨rfl, rfl⟩
        clear ht
        go_wp2_with fail
        go_roundw
        case rel => exact ⟨q + 1, _, _, _, by omega, rfl, rfl, by go_num, H4.out, hL⟩
        case measure => first | (simp [intOf]; done) | (simp [intOf]; omega)
      · go_wp2_with fail
        refine ht.mono ?_
        rintro e w1 ⟨rfl, rfl⟩
        clear ht
        go_wp2_with fail
        go_roundw
        case rel => exact ⟨q + 1, _, _, _, by omega, rfl, by simp [h0], by go_num, H4.out, hL⟩
        case measure => first | (simp [intOf]; done) | (simp [intOf]; omega)
    obtain rfl : q = 6 := by omega
    have hmd : m.d = [] := by have := rfG_d s 6; rw [HG.out] at this; exact this
    have ck := hL.box.cells.1
    by_cases k2 : m.k = 2
    · have HA : Hid (rfA s = (m, o)) := by show _ = _; rw [rfA, HG.out]; exact if_pos k2
      rw [k2] at ck
      have k2 : Hid (m.k = 2) := k2
      clear HG hlt hq
      have hrn : RdD wr (.slice none 0 0) m.d := by rw [hmd]; exact RdD.nil _
      have hln : m.d.length ≤ maxLen := by rw [hmd]; exact Nat.zero_le _
      have hsm : ∀ x ∈ m.d, x.Sm := by rw [hmd]; simp
      cases o
      · have hEn := rencode_any m (.slice none 0 0) wr hrn hln hsm
        obtain ⟨c0, c1, c2, c3, c4, c5, c6⟩ := hL.box.cells
        unfold MsD.fs at hEn
        rw [k2.out] at hEn c0
        have HX : Hid (wdR s = (zM, 160)) := by
          show _ = _
          rw [HW.out, rfR, rfO, HA.out]
          simp
        clear HA
        generalize weR m = R at *
        go_wp2_with fail
        refine hEn.mono ?_
        rintro e w8 ⟨rfl, hb8⟩
        have hF8 := hL.below hb8
        clear hEn hL hb8 c0 c1 c2 c3 c4 c5 c6
        have hres := hF8.res
        have hfin := setRow_heap _ _ _ #[.int .i64 0, .int .i64 0, .int .i64 0, .int .i64 0, .int .i64 0, .int .i64 0, .slice none 0 0] _ _ hres
        have hBf : Below w.heap.size w (World.setRow w8 w.heap.size #[.int .i64 0, .int .i64 0, .int .i64 0, .int .i64 0, .int .i64 0, .int .i64 0, .slice none 0 0]) := below_row hF8.bel (Nat.le_refl _) hF8.bel.size
        clear hF8
        go_wp2_with (with_reducible refine at_store 24 _ _ rfl ?_; refine store_ms rfl _ _ rfl w.heap.size #[.int .i64 0, .int .i64 0, .int .i64 0, .int .i64 0, .int .i64 0, .int .i64 0, .slice none 0 0] #[.int .i64 0, .int .i64 0, .int .i64 0, .int .i64 0, .int .i64 0, .int .i64 0, .slice none 0 0] rfl rfl hres h70 h70 hone0 ?_)
        refine bodyPost_ret (results_cell2 rfl _ _ w.heap.size 24 _ (0, 0) _ rfl hfin Try.underlying24 rfl Try.sizeMs (.int .i64 160) rfl) rfl ?_
        rw [HX.out]
        exact ⟨.slice none 0 0, rfl, RdD.nil _, hBf⟩
      have hEn := rencode_any m (.slice none 0 0) wr hrn hln hsm
      obtain ⟨c0, c1, c2, c3, c4, c5, c6⟩ := hL.box.cells
      unfold MsD.fs at hEn
      rw [k2.out] at hEn c0
      cases hM : mayM m
      · have HX : Hid (wdR s = (zM, 160)) := by
          show _ = _
          rw [HW.out, rfR, rfO, HA.out, hM]
          simp
        rw [show weR m = (⟨#[]⟩, 160) by rw [weR, hM]; rfl] at hEn
        clear hM HA
        go_wp2_with fail
        refine hEn.mono ?_
        rintro e w8 ⟨rfl, hb8⟩
        have hF8 := hL.below hb8
        clear hEn hL hb8 c0 c1 c2 c3 c4 c5 c6
        have hres := hF8.res
        have hfin := setRow_heap _ _ _ #[.int .i64 0, .int .i64 0, .int .i64 0, .int .i64 0, .int .i64 0, .int .i64 0, .slice none 0 0] _ _ hres
        have hBf : Below w.heap.size w (World.setRow w8 w.heap.size #[.int .i64 0, .int .i64 0, .int .i64 0, .int .i64 0, .int .i64 0, .int .i64 0, .slice none 0 0]) := below_row hF8.bel (Nat.le_refl _) hF8.bel.size
        clear hF8
        go_wp2_with (with_reducible refine at_store 24 _ _ rfl ?_; refine store_ms rfl _ _ rfl w.heap.size #[.int .i64 0, .int .i64 0, .int .i64 0, .int .i64 0, .int .i64 0, .int .i64 0, .slice none 0 0] #[.int .i64 0, .int .i64 0, .int .i64 0, .int .i64 0, .int .i64 0, .int .i64 0, .slice none 0 0] rfl rfl hres h70 h70 hone0 ?_)
        refine bodyPost_ret (results_cell2 rfl _ _ w.heap.size 24 _ (0, 0) _ rfl hfin Try.underlying24 rfl Try.sizeMs (.int .i64 160) rfl) rfl ?_
        rw [HX.out]
        exact ⟨.slice none 0 0, rfl, RdD.nil _, hBf⟩
      rw [show weR m = (mk (frmB m), 0) by rw [weR, hM]; rfl] at hEn
      by_cases hb : mk (frmB m) = s
      · have HX : Hid (wdR s = (m, 0)) := by
          show _ = _
          rw [HW.out, rfR, rfO, HA.out, hM, decide_eq_true hb]
          simp
        rw [hb] at hEn
        clear hM HA hb
        go_wp2_with fail
        refine hEn.mono ?_
        rintro e w8 ⟨rfl, hb8⟩
        have hF8 := hL.below hb8
        have hr8 : RdD (World.setRow w8 w.heap.size (m.fs (.slice none 0 0))) (.slice none 0 0) m.d := by rw [hmd]; exact RdD.nil _
        clear hEn hL hb8 c0 c1 c2 c3 c4 c5 c6
        have hres := hF8.res
        have hbx := hF8.box
        have hone := fs_one m (.slice none 0 0) rfl
        have hfin := setRow_heap _ _ _ (m.fs (.slice none 0 0)) _ _ hres
        have hBf : Below w.heap.size w (World.setRow w8 w.heap.size (m.fs (.slice none 0 0))) := below_row hF8.bel (Nat.le_refl _) hF8.bel.size
        have hrf : RdD (World.setRow w8 w.heap.size (m.fs (.slice none 0 0))) (.slice none 0 0) m.d := hr8
        clear hF8
        unfold MB at hbx
        go_wp2_with (first | (with_reducible refine at_load 24 _ rfl ?_; refine wpList_load_row rfl 24 _ rfl (w.heap.size + 1) rfl 24 _ _ _ hbx Try.underlying24 rfl (fs_info m (.slice none 0 0)) ?_) | (with_reducible refine at_store 24 _ _ rfl ?_; refine store_ms rfl _ _ rfl w.heap.size (m.fs (.slice none 0 0)) #[.int .i64 0, .int .i64 0, .int .i64 0, .int .i64 0, .int .i64 0, .int .i64 0, .slice none 0 0] rfl rfl hres h70 (fs_size m (.slice none 0 0)) hone ?_))
        refine bodyPost_ret (results_cell2 rfl _ _ w.heap.size 24 _ (0, 0) _ rfl hfin Try.underlying24 rfl (fs_info m (.slice none 0 0)) (.int .i64 0) rfl) rfl ?_
        rw [HX.out]
        exact ⟨(.slice none 0 0), rfl, hrf, hBf⟩
      have HX : Hid (wdR s = (zM, 160)) := by
        show _ = _
        rw [HW.out, rfR, rfO, HA.out, hM, decide_eq_false hb]
        simp
      clear hM HA
      have hbS := str_ne hb
      generalize mk (frmB m) = S at *
      clear hb
      go_wp2_with fail
      refine hEn.mono ?_
      rintro e w8 ⟨rfl, hb8⟩
      have hF8 := hL.below hb8
      clear hEn hL hb8 c0 c1 c2 c3 c4 c5 c6
      have hres := hF8.res
      have hfin := setRow_heap _ _ _ #[.int .i64 0, .int .i64 0, .int .i64 0, .int .i64 0, .int .i64 0, .int .i64 0, .slice none 0 0] _ _ hres
      have hBf : Below w.heap.size w (World.setRow w8 w.heap.size #[.int .i64 0, .int .i64 0, .int .i64 0, .int .i64 0, .int .i64 0, .int .i64 0, .slice none 0 0]) := below_row hF8.bel (Nat.le_refl _) hF8.bel.size
      clear hF8
      go_wp2_with (with_reducible refine at_store 24 _ _ rfl ?_; refine store_ms rfl _ _ rfl w.heap.size #[.int .i64 0, .int .i64 0, .int .i64 0, .int .i64 0, .int .i64 0, .int .i64 0, .slice none 0 0] #[.int .i64 0, .int .i64 0, .int .i64 0, .int .i64 0, .int .i64 0, .int .i64 0, .slice none 0 0] rfl rfl hres h70 h70 hone0 ?_)
      refine bodyPost_ret (results_cell2 rfl _ _ w.heap.size 24 _ (0, 0) _ rfl hfin Try.underlying24 rfl Try.sizeMs (.int .i64 160) rfl) rfl ?_
      rw [HX.out]
      exact ⟨.slice none 0 0, rfl, RdD.nil _, hBf⟩
    have hT := pk.refText_any s a wr hs
    have hzT := tkT_size s a
    have hD := fun W => refDecode_any (pk.tkT s a).1 W (by omega)
    rw [ref_dec] at hD
    have HA0 : Hid (rfA s = ({ m with d := (decR (pk.tkT s a).1).1 }, o && decide ((pk.tkT s a).2.2 = 0) && decide ((decR (pk.tkT s a).1).2 = 0))) := by show _ = _; rw [rfA, HG.out]; exact if_neg k2
    have hi1 := dec_in (pk.tkT s a).1
    have hi2 := dec_sm (pk.tkT s a).1
    generalize pk.tkT s a = T at *
    obtain ⟨t, q2, e1⟩ := T
    simp only at hT hD HA0 hi1 hi2
    generalize decR t = D at *
    obtain ⟨d, e2⟩ := D
    simp only at hD HA0 hi1 hi2
    have hln : d.length ≤ maxLen := by unfold maxLen; omega
    clear HG hzT hmd hlt hq hi1
    go_wp2_with fail
    refine hT.mono ?_
    rintro e w1 ⟨rfl, rfl⟩
    clear hT
    go_wp2_with fail
    refine (hD _).mono ?_
    clear hD
    rintro e w2 ⟨u2, rfl, ho2, hb2⟩
    have hL2 := hL.below hb2
    clear hL hb2 ck
    obtain ⟨ao, cp, rfl⟩ := own_form ho2
    have z6 := frz hL2.box 6
    have c66 := hL2.box.cells.2.2.2.2.2.2
    have hL3 := hL2.putD (.slice ao d.length cp) d
    have ho3 := own_set (j := 6) (x := .slice ao d.length cp) ho2 hL2.box (by decide)
    have hrd := rdd_own ho3
    clear hL2 ho2
    cases o
    · have HA : Hid (rfA s = (({ m with d := d } : MsD), false)) := by show _ = _; rw [HA0.out]; simp
      clear HA0
      have hEn := rencode_any ({ m with d := d } : MsD) (.slice ao d.length cp) (w2.setCell ⟨w.heap.size + 1, 6, none⟩ (.slice ao d.length cp)) hrd hln hi2
      obtain ⟨c0, c1, c2, c3, c4, c5, c6⟩ := hL3.box.cells
      unfold MsD.fs at hEn
      skip
      have HX : Hid (wdR s = (zM, 160)) := by
        show _ = _
        rw [HW.out, rfR, rfO, HA.out]
        simp
      clear HA
      generalize weR ({ m with d := d } : MsD) = R at *
      go_wp2_with fail
      refine hEn.mono ?_
      rintro e w8 ⟨rfl, hb8⟩
      have hF8 := hL3.below hb8
      clear hEn hL3 hb8 c0 c1 c2 c3 c4 c5 c6
      have hres := hF8.res
      have hfin := setRow_heap _ _ _ #[.int .i64 0, .int .i64 0, .int .i64 0, .int .i64 0, .int .i64 0, .int .i64 0, .slice none 0 0] _ _ hres
      have hBf : Below w.heap.size w (World.setRow w8 w.heap.size #[.int .i64 0, .int .i64 0, .int .i64 0, .int .i64 0, .int .i64 0, .int .i64 0, .slice none 0 0]) := below_row hF8.bel (Nat.le_refl _) hF8.bel.size
      clear hF8
      go_wp2_with (with_reducible refine at_store 24 _ _ rfl ?_; refine store_ms rfl _ _ rfl w.heap.size #[.int .i64 0, .int .i64 0, .int .i64 0, .int .i64 0, .int .i64 0, .int .i64 0, .slice none 0 0] #[.int .i64 0, .int .i64 0, .int .i64 0, .int .i64 0, .int .i64 0, .int .i64 0, .slice none 0 0] rfl rfl hres h70 h70 hone0 ?_)
      refine bodyPost_ret (results_cell2 rfl _ _ w.heap.size 24 _ (0, 0) _ rfl hfin Try.underlying24 rfl Try.sizeMs (.int .i64 160) rfl) rfl ?_
      rw [HX.out]
      exact ⟨.slice none 0 0, rfl, RdD.nil _, hBf⟩
    by_cases h1 : ¬ e1 = 0
    · have HA : Hid (rfA s = (({ m with d := d } : MsD), false)) := by show _ = _; rw [HA0.out, decide_eq_false h1]; simp
      clear HA0
      have hEn := rencode_any ({ m with d := d } : MsD) (.slice ao d.length cp) (w2.setCell ⟨w.heap.size + 1, 6, none⟩ (.slice ao d.length cp)) hrd hln hi2
      obtain ⟨c0, c1, c2, c3, c4, c5, c6⟩ := hL3.box.cells
      unfold MsD.fs at hEn
      skip
      have HX : Hid (wdR s = (zM, 160)) := by
        show _ = _
        rw [HW.out, rfR, rfO, HA.out]
        simp
      clear HA
      generalize weR ({ m with d := d } : MsD) = R at *
      go_wp2_with fail
      refine hEn.mono ?_
      rintro e w8 ⟨rfl, hb8⟩
      have hF8 := hL3.below hb8
      clear hEn hL3 hb8 c0 c1 c2 c3 c4 c5 c6
      have hres := hF8.res
      have hfin := setRow_heap _ _ _ #[.int .i64 0, .int .i64 0, .int .i64 0, .int .i64 0, .int .i64 0, .int .i64 0, .slice none 0 0] _ _ hres
      have hBf : Below w.heap.size w (World.setRow w8 w.heap.size #[.int .i64 0, .int .i64 0, .int .i64 0, .int .i64 0, .int .i64 0, .int .i64 0, .slice none 0 0]) := below_row hF8.bel (Nat.le_refl _) hF8.bel.size
      clear hF8
      go_wp2_with (with_reducible refine at_store 24 _ _ rfl ?_; refine store_ms rfl _ _ rfl w.heap.size #[.int .i64 0, .int .i64 0, .int .i64 0, .int .i64 0, .int .i64 0, .int .i64 0, .slice none 0 0] #[.int .i64 0, .int .i64 0, .int .i64 0, .int .i64 0, .int .i64 0, .int .i64 0, .slice none 0 0] rfl rfl hres h70 h70 hone0 ?_)
      refine bodyPost_ret (results_cell2 rfl _ _ w.heap.size 24 _ (0, 0) _ rfl hfin Try.underlying24 rfl Try.sizeMs (.int .i64 160) rfl) rfl ?_
      rw [HX.out]
      exact ⟨.slice none 0 0, rfl, RdD.nil _, hBf⟩
    replace h1 := Decidable.not_not.1 h1
    subst h1
    by_cases h2 : ¬ e2 = 0
    · have HA : Hid (rfA s = (({ m with d := d } : MsD), false)) := by show _ = _; rw [HA0.out, decide_eq_false h2]; simp
      clear HA0
      have hEn := rencode_any ({ m with d := d } : MsD) (.slice ao d.length cp) (w2.setCell ⟨w.heap.size + 1, 6, none⟩ (.slice ao d.length cp)) hrd hln hi2
      obtain ⟨c0, c1, c2, c3, c4, c5, c6⟩ := hL3.box.cells
      unfold MsD.fs at hEn
      skip
      have HX : Hid (wdR s = (zM, 160)) := by
        show _ = _
        rw [HW.out, rfR, rfO, HA.out]
        simp
      clear HA
      generalize weR ({ m with d := d } : MsD) = R at *
      go_wp2_with fail
      refine hEn.mono ?_
      rintro e w8 ⟨rfl, hb8⟩
      have hF8 := hL3.below hb8
      clear hEn hL3 hb8 c0 c1 c2 c3 c4 c5 c6
      have hres := hF8.res
      have hfin := setRow_heap _ _ _ #[.int .i64 0, .int .i64 0, .int .i64 0, .int .i64 0, .int .i64 0, .int .i64 0, .slice none 0 0] _ _ hres
      have hBf : Below w.heap.size w (World.setRow w8 w.heap.size #[.int .i64 0, .int .i64 0, .int .i64 0, .int .i64 0, .int .i64 0, .int .i64 0, .slice none 0 0]) := below_row hF8.bel (Nat.le_refl _) hF8.bel.size
      clear hF8
      go_wp2_with (with_reducible refine at_store 24 _ _ rfl ?_; refine store_ms rfl _ _ rfl w.heap.size #[.int .i64 0, .int .i64 0, .int .i64 0, .int .i64 0, .int .i64 0, .int .i64 0, .slice none 0 0] #[.int .i64 0, .int .i64 0, .int .i64 0, .int .i64 0, .int .i64 0, .int .i64 0, .slice none 0 0] rfl rfl hres h70 h70 hone0 ?_)
      refine bodyPost_ret (results_cell2 rfl _ _ w.heap.size 24 _ (0, 0) _ rfl hfin Try.underlying24 rfl Try.sizeMs (.int .i64 160) rfl) rfl ?_
      rw [HX.out]
      exact ⟨.slice none 0 0, rfl, RdD.nil _, hBf⟩
    replace h2 := Decidable.not_not.1 h2
    subst h2
    have HA : Hid (rfA s = (({ m with d := d } : MsD), true)) := by show _ = _; rw [HA0.out]; simp
    clear HA0
    have hEn := rencode_any ({ m with d := d } : MsD) (.slice ao d.length cp) (w2.setCell ⟨w.heap.size + 1, 6, none⟩ (.slice ao d.length cp)) hrd hln hi2
    obtain ⟨c0, c1, c2, c3, c4, c5, c6⟩ := hL3.box.cells
    unfold MsD.fs at hEn
    skip
    cases hM : mayM ({ m with d := d } : MsD)
    · have HX : Hid (wdR s = (zM, 160)) := by
        show _ = _
        rw [HW.out, rfR, rfO, HA.out, hM]
        simp
      rw [show weR ({ m with d := d } : MsD) = (⟨#[]⟩, 160) by rw [weR, hM]; rfl] at hEn
      clear hM HA
      go_wp2_with fail
      refine hEn.mono ?_
      rintro e w8 ⟨rfl, hb8⟩
      have hF8 := hL3.below hb8
      clear hEn hL3 hb8 c0 c1 c2 c3 c4 c5 c6
      have hres := hF8.res
      have hfin := setRow_heap _ _ _ #[.int .i64 0, .int .i64 0, .int .i64 0, .int .i64 0, .int .i64 0, .int .i64 0, .slice none 0 0] _ _ hres
      have hBf : Below w.heap.size w (World.setRow w8 w.heap.size #[.int .i64 0, .int .i64 0, .int .i64 0, .int .i64 0, .int .i64 0, .int .i64 0, .slice none 0 0]) := below_row hF8.bel (Nat.le_refl _) hF8.bel.size
      clear hF8
      go_wp2_with (with_reducible refine at_store 24 _ _ rfl ?_; refine store_ms rfl _ _ rfl w.heap.size #[.int .i64 0, .int .i64 0, .int .i64 0, .int .i64 0, .int .i64 0, .int .i64 0, .slice none 0 0] #[.int .i64 0, .int .i64 0, .int .i64 0, .int .i64 0, .int .i64 0, .int .i64 0, .slice none 0 0] rfl rfl hres h70 h70 hone0 ?_)
      refine bodyPost_ret (results_cell2 rfl _ _ w.heap.size 24 _ (0, 0) _ rfl hfin Try.underlying24 rfl Try.sizeMs (.int .i64 160) rfl) rfl ?_
      rw [HX.out]
      exact ⟨.slice none 0 0, rfl, RdD.nil _, hBf⟩
    rw [show weR ({ m with d := d } : MsD) = (mk (frmB ({ m with d := d } : MsD)), 0) by rw [weR, hM]; rfl] at hEn
    by_cases hb : mk (frmB ({ m with d := d } : MsD)) = s
    · have HX : Hid (wdR s = (({ m with d := d } : MsD), 0)) := by
        show _ = _
        rw [HW.out, rfR, rfO, HA.out, hM, decide_eq_true hb]
        simp
      rw [hb] at hEn
      clear hM HA hb
      go_wp2_with fail
      refine hEn.mono ?_
      rintro e w8 ⟨rfl, hb8⟩
      have hF8 := hL3.below hb8
      have hr8 : RdD (World.setRow w8 w.heap.size (MsD.fs ({ m with d := d } : MsD) (.slice ao d.length cp))) (.slice ao d.length cp) d := rdd_own (own_row (own_belowG ho3 hb8) hF8.res (by decide))
      clear hEn hL3 hb8 c0 c1 c2 c3 c4 c5 c6
      have hres := hF8.res
      have hbx := hF8.box
      have hone := fs_one ({ m with d := d } : MsD) (.slice ao d.length cp) rfl
      have hfin := setRow_heap _ _ _ (({ m with d := d } : MsD).fs (.slice ao d.length cp)) _ _ hres
      have hBf : Below w.heap.size w (World.setRow w8 w.heap.size (({ m with d := d } : MsD).fs (.slice ao d.length cp))) := below_row hF8.bel (Nat.le_refl _) hF8.bel.size
      have hrf : RdD (World.setRow w8 w.heap.size (({ m with d := d } : MsD).fs (.slice ao d.length cp))) (.slice ao d.length cp) ({ m with d := d } : MsD).d := hr8
      clear hF8
      unfold MB at hbx
      go_wp2_with (first | (with_reducible refine at_load 24 _ rfl ?_; refine wpList_load_row rfl 24 _ rfl (w.heap.size + 1) rfl 24 _ _ _ hbx Try.underlying24 rfl (fs_info ({ m with d := d } : MsD) (.slice ao d.length cp)) ?_) | (with_reducible refine at_store 24 _ _ rfl ?_; refine store_ms rfl _ _ rfl w.heap.size (({ m with d := d } : MsD).fs (.slice ao d.length cp)) #[.int .i64 0, .int .i64 0, .int .i64 0, .int .i64 0, .int .i64 0, .int .i64 0, .slice none 0 0] rfl rfl hres h70 (fs_size ({ m with d := d } : MsD) (.slice ao d.length cp)) hone ?_))
      refine bodyPost_ret (results_cell2 rfl _ _ w.heap.size 24 _ (0, 0) _ rfl hfin Try.underlying24 rfl (fs_info ({ m with d := d } : MsD) (.slice ao d.length cp)) (.int .i64 0) rfl) rfl ?_
      rw [HX.out]
      exact ⟨(.slice ao d.length cp), rfl, hrf, hBf⟩
    have HX : Hid (wdR s = (zM, 160)) := by
      show _ = _
      rw [HW.out, rfR, rfO, HA.out, hM, decide_eq_false hb]
      simp
    clear hM HA
    have hbS := str_ne hb
    generalize mk (frmB ({ m with d := d } : MsD)) = S at *
    clear hb
    go_wp2_with fail
    refine hEn.mono ?_
    rintro e w8 ⟨rfl, hb8⟩
    have hF8 := hL3.below hb8
    clear hEn hL3 hb8 c0 c1 c2 c3 c4 c5 c6
    have hres := hF8.res
    have hfin := setRow_heap _ _ _ #[.int .i64 0, .int .i64 0, .int .i64 0, .int .i64 0, .int .i64 0, .int .i64 0, .slice none 0 0] _ _ hres
    have hBf : Below w.heap.size w (World.setRow w8 w.heap.size #[.int .i64 0, .int .i64 0, .int .i64 0, .int .i64 0, .int .i64 0, .int .i64 0, .slice none 0 0]) := below_row hF8.bel (Nat.le_refl _) hF8.bel.size
    clear hF8
    go_wp2_with (with_reducible refine at_store 24 _ _ rfl ?_; refine store_ms rfl _ _ rfl w.heap.size #[.int .i64 0, .int .i64 0, .int .i64 0, .int .i64 0, .int .i64 0, .int .i64 0, .slice none 0 0] #[.int .i64 0, .int .i64 0, .int .i64 0, .int .i64 0, .int .i64 0, .int .i64 0, .slice none 0 0] rfl rfl hres h70 h70 hone0 ?_)
    refine bodyPost_ret (results_cell2 rfl _ _ w.heap.size 24 _ (0, 0) _ rfl hfin Try.underlying24 rfl Try.sizeMs (.int .i64 160) rfl) rfl ?_
    rw [HX.out]
    exact ⟨.slice none 0 0, rfl, RdD.nil _, hBf⟩
end Go.Proofs.Ytgceileakcjmdaa
