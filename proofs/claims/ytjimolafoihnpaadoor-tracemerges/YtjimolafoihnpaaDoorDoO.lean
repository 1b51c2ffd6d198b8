/-
  The contract of strings.Clone.
-/
import Derived.Test.YtjimolafoihnpaaDoorDoJ
import Derived.Lib.BufferWrite
import Derived.Lib.UnsafeStr
namespace Go.Proofs.YtjimolafoihnpaaDoor
open Go.WideShapes Go.RowKit Go.ChangeShapes Go.ChangeAt Go.PlainAid

theorem make_u8 (n : Nat) (hn : n ≤ 1125899906842) : ∃ Z : Array Value, Z.size = n ∧ ∀ W : World, (Instr.makeSlice 155 (.int .i64 (n : Int)) (.int .i64 (n : Int))).run Tryd.prog W = .ok (.slice (some ⟨W.heap.size, 0, none⟩) n n) (W.alloc (.cells Z 5)) := by
  obtain ⟨i0, hi, hz0, hz1, hz2⟩ := info_parts Tryd.info5
  refine ⟨madeCells (Value.int .u8 0).cells (n * i0.size), ?_, fun W => ?_⟩
  rotate_left
  · have h := run_make (P := Tryd.prog) W 155 5 i0 _ Tryd.underlying155 hi hz0 .i64 .i64 (n : Int) (n : Int) (by omega) (by omega) (by rw [hz2]; omega) (by omega)
    simpa using h
  · simp [size_madeCells, hz1]

set_option maxRecDepth 20000 in
set_option maxHeartbeats 1000000 in
theorem liteClone_any (s : ByteArray) (w : World) (h0 : s.size ≠ 0) (hs : s.size ≤ 1125899906842) :
    Calls Tryd.prog 93 #[.string s] w fun e w' => e = .returned (.string s) ∧ Below w.heap.size w w' := by
  obtain ⟨Z, hZ, hmk⟩ := make_u8 s.size hs
  have hz : ((s.size : Int) == 0) = false := beq_eq_false_iff_ne.2 (by omega)
  have hnew : (w.alloc (.cells Z 5)).heap[w.heap.size]? = some (.cells Z 5 (0, 0)) := heap_alloc_new w _
  have hcp := fun ty => Lib.run_copy_row_string (P := Tryd.prog) (w.alloc (.cells Z 5)) 155 9 ty 5 w.heap.size 0 s.size s.size s Z 5 Tryd.underlying155 (by kernel_rfl) hnew (Nat.le_refl _) (by omega)
  have hrow : (Z.toList.take 0 ++ Lib.byteCells s.data.toList ++ Z.toList.drop (0 + s.size)).toArray = (Lib.byteCells s.data.toList).toArray := by
    rw [List.drop_of_length_le (by simp; omega)]
    simp
  rw [hrow] at hcp
  have hset := setRow_heap (w.alloc (.cells Z 5)) w.heap.size Z (Lib.byteCells s.data.toList).toArray 5 (0, 0) hnew
  have hlen : s.data.toList.length = s.size := by rw [Array.length_toList]; rfl
  have hUS := fun ty => Lib.run_unsafeString_row (P := Tryd.prog) ((w.alloc (.cells Z 5)).setRow w.heap.size (Lib.byteCells s.data.toList).toArray) 178 3 ty 5 Tryd.underlying178 (by kernel_rfl) w.heap.size s.size (by unfold World.shape?; rw [hset]; simp [Lib.byteCells_length, hlen]) s.data.toList (fun e => by rw [e] at hlen; simp at hlen; omega) (by omega) (by omega)
    (fun j x hx => by
      rw [addr4]
      unfold World.cell?
      simp only [hset]
      simp [Lib.byteCells, hx])
  rw [hlen] at hUS
  have hB1 : Below w.heap.size (w.alloc (.cells Z 5)) ((w.alloc (.cells Z 5)).setRow w.heap.size (Lib.byteCells s.data.toList).toArray) := ⟨rfl, rfl, rfl, by simp, fun k hk => setRow_other _ _ _ _ (by omega)⟩
  have hB : Below w.heap.size w (((w.alloc (.cells Z 5)).setRow w.heap.size (Lib.byteCells s.data.toList).toArray).freeze ⟨w.heap.size, 0, none⟩ s.size) :=
    Lib.below_freeze (((Below.refl _ w).alloc (Nat.le_refl _) _).trans hB1) (p := ⟨w.heap.size, 0, none⟩) (Nat.le_refl _) _
  go_enter Tryd.func93, Tryd.ntmps93
  go_wp2_with fail
  go_ret
  exact ⟨rfl, hB⟩

set_option maxRecDepth 20000 in
set_option maxHeartbeats 1000000 in
theorem strClone_any (s : ByteArray) (w : World) (h0 : s.size ≠ 0) (hs : s.size ≤ 1125899906842) :
    Calls Tryd.prog 80 #[.string s] w fun e w' => e = .returned (.string s) ∧ Below w.heap.size w w' := by
  have h := liteClone_any s w h0 hs
  go_enter Tryd.func80, Tryd.ntmps80
  go_wp2_with (go_at_call 93; refine h.mono ?_; rintro e w1 ⟨rfl, hb1⟩)
  go_ret
  exact ⟨rfl, hb1⟩
end Go.Proofs.YtjimolafoihnpaaDoor

/-
  A document with a run behind it.
-/
namespace Go.Proofs.YtjimolafoihnpaaDoor
open Go.WideShapes Go.RowKit Go.ChangeShapes Go.ChangeAt Go.PlainAid

theorem mk_app (a b : List UInt8) : mk a ++ mk b = mk (a ++ b) := by
  apply ByteArray.ext
  simp [mk]
theorem mk_self (t : ByteArray) : mk t.data.toList = t := by
  apply ByteArray.ext
  simp [mk]
theorem pts_sz {t : ByteArray} (h : 0 ≤ cpl t) : ∀ z ∈ pts t, szI z ≠ 0 := by
  have hv := cpl_valid h
  have := (at_ptM (s := t) (f := 0) (cpl t).toNat (fun k hk => hv.1 k (by omega))).2.2
  rwa [ptM_zero] at this
theorem app_pts {a b : ByteArray} (ha : 0 ≤ cpl a) (hb : 0 ≤ cpl b) : cpl (a ++ b) = cpl a + cpl b ∧ pts (a ++ b) = pts a ++ pts b := by
  have h1 := ins_enc ha
  have h3 := ins_enc hb
  have e : a ++ b = mk (enc (pts a ++ pts b)) := by
    rw [enc_append, ← h1, ← h3, ← mk_app, mk_self, mk_self]
  have hz : ∀ z ∈ pts a ++ pts b, szI z ≠ 0 := fun z hz => (List.mem_append.1 hz).elim (pts_sz ha z) (pts_sz hb z)
  have hc := cpl_enc hz
  rw [e]
  refine ⟨?_, hc.2⟩
  rw [hc.1, List.length_append]
  have := pts_len ha
  have := pts_len hb
  omega

/-- Two runs as one. -/
def RunD.cat (a r : RunD) : RunD := ⟨a.c, a.q, a.f, a.t ++ r.t⟩
theorem cat_ats {a r : RunD} (ha : a.Ok) (hr : r.Ok) (h : nxR a r = true) : (a.cat r).ats = a.ats ++ r.ats ∧ (a.cat r).Ok := by
  have h1 : 0 ≤ cpl a.t := by unfold RunD.Ok at ha; omega
  have h2 : 0 ≤ cpl r.t := by unfold RunD.Ok at hr; omega
  obtain ⟨e1, e2⟩ := app_pts h1 h2
  obtain ⟨n1, n2, n3⟩ := nxR_iff.1 h
  refine ⟨?_, ?_⟩
  · unfold RunD.cat RunD.ats
    simp only
    rw [e2, atG_append, n1, n2, n3]
    have := pts_len h1
    rw [this]
  · unfold RunD.Ok RunD.cat
    simp only
    rw [e1]
    unfold RunD.Ok at ha hr
    omega

/-- A run behind a document. -/
def wtS (l : List RunD) (r : RunD) : List RunD :=
  match l.getLast? with
  | none => [r]
  | some a => if nxR a r = true then l.dropLast ++ [a.cat r] else l ++ [r]
theorem wtS_nil (r : RunD) : wtS [] r = [r] := rfl
theorem wtS_yes {l : List RunD} {a r : RunD} (h : nxR a r = true) : wtS (l ++ [a]) r = l ++ [a.cat r] := by simp [wtS, h]
theorem wtS_no {l : List RunD} {a r : RunD} (h : nxR a r = false) : wtS (l ++ [a]) r = l ++ [a] ++ [r] := by simp [wtS, h]
/-- Runs behind a document, one by one. -/
def wtL (l more : List RunD) : List RunD := more.foldl wtS l
theorem wtL_nil (l : List RunD) : wtL l [] = l := rfl
theorem wtL_cons (l : List RunD) (r : RunD) (more : List RunD) : wtL l (r :: more) = wtL (wtS l r) more := rfl
theorem wtL_take {l more : List RunD} {k : Nat} (h : k < more.length) : wtL l (more.take (k + 1)) = wtS (wtL l (more.take k)) more[k] := by
  unfold wtL
  rw [List.take_succ_eq_append_getElem h, List.foldl_append]
  rfl

theorem can_add : ∀ {l : List RunD} {a r : RunD}, Can (l ++ [a]) → r.Ok → nxR a r = false → Can (l ++ [a] ++ [r])
  | [], _, _, h, hr, hn => ⟨h, hn, hr⟩
  | [_], _, _, h, hr, hn => ⟨h.1, h.2.1, h.2.2, hn, hr⟩
  | _ :: y :: l, _, _, h, hr, hn => ⟨h.1, h.2.1, can_add (l := y :: l) h.2.2 hr hn⟩
theorem can_swap : ∀ {l : List RunD} {a b : RunD}, Can (l ++ [a]) → b.Ok → b.c = a.c → b.q = a.q → b.f = a.f → Can (l ++ [b])
  | [], _, _, _, hb, _, _, _ => hb
  | [_], _, _, h, hb, h1, h2, h3 => ⟨h.1, by have := h.2.1; unfold nxR at this ⊢; rwa [h1, h2, h3], hb⟩
  | _ :: y :: l, _, _, h, hb, h1, h2, h3 => ⟨h.1, h.2.1, can_swap (l := y :: l) h.2.2 hb h1 h2 h3⟩
theorem can_last : ∀ {l : List RunD} {a : RunD}, Can (l ++ [a]) → a.Ok := fun h => h.all _ (by simp)

theorem wtS_can {l : List RunD} {r : RunD} (h : Can l) (hr : r.Ok) : Can (wtS l r) ∧ ats (wtS l r) = ats l ++ r.ats := by
  rcases List.eq_nil_or_concat l with rfl | ⟨l', a, rfl⟩
  · rw [wtS_nil]
    exact ⟨hr, by simp [ats]⟩
  · simp only [List.concat_eq_append] at *
    cases hn : nxR a r
    · rw [wtS_no hn]
      exact ⟨can_add h hr hn, by rw [ats_append]; simp [ats]⟩
    · rw [wtS_yes hn]
      obtain ⟨e1, e2⟩ := cat_ats (can_last h) hr hn
      refine ⟨can_swap h e2 rfl rfl rfl, ?_⟩
      rw [ats_append, ats_append, List.append_assoc]
      congr 1
      simp [ats, e1]
theorem wtL_can : ∀ {more l : List RunD}, Can l → (∀ r ∈ more, r.Ok) → Can (wtL l more) ∧ ats (wtL l more) = ats l ++ ats more
  | [], l, h, _ => ⟨h, by simp [wtL, ats]⟩
  | r :: more, l, h, hm => by
    obtain ⟨h1, h2⟩ := wtS_can h (hm r (by simp))
    obtain ⟨h3, h4⟩ := wtL_can (more := more) h1 (fun x hx => hm x (by simp [hx]))
    rw [wtL_cons]
    exact ⟨h3, by rw [h4, h2, ats_cons, List.append_assoc]⟩
end Go.Proofs.YtjimolafoihnpaaDoor
