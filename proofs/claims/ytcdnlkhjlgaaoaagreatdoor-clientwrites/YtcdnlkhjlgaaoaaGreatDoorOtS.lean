/-
  What a normal delta does at each place; the contract of along, for whatever has the places seen.
-/
import Derived.Test.YtcdnlkhjlgaaoaaGreatDoorOtB
import Derived.Test.YtcdnlkhjlgaaoaaGreatDoorMapG
import Derived.Maps.RangeWalk
import Derived.Deep.WholeRow
namespace Go.Proofs.YtcdnlkhjlgaaoaaGreatDoor
open Go.ChangeShapes Go.WideShapes Go.ChangeAt Go.RowKit Go.PlainAid

/-- What a normal delta does at a place. -/
structure Spot where
  put : ByteArray
  k : Int
def reps (p : ByteArray) (k : Int) : Nat → List Spot
  | 0 => []
  | n + 1 => ⟨p, k⟩ :: reps ⟨#[]⟩ k n
def spots : List St → ByteArray → List Spot
  | [], p => [⟨p, 0⟩]
  | .ins t :: ds, _ => spots ds t
  | .keep n :: ds, p => reps p 1 n ++ spots ds ⟨#[]⟩
  | .rem n :: ds, p => reps p 3 n ++ spots ds ⟨#[]⟩
theorem reps_len (p : ByteArray) (k : Int) (n : Nat) : (reps p k n).length = n := by
  induction n generalizing p with
  | zero => rfl
  | succ n ih => rw [reps, List.length_cons, ih]
theorem spots_len : ∀ (ds : List St) (p : ByteArray), (spots ds p).length = bsum ds + 1
  | [], p => by simp [spots, bsum]
  | .ins t :: ds, p => by rw [spots, spots_len ds]; simp [bsum, St.b]
  | .keep n :: ds, p => by rw [spots, List.length_append, reps_len, spots_len ds]; simp [bsum, St.b]; omega
  | .rem n :: ds, p => by rw [spots, List.length_append, reps_len, spots_len ds]; simp [bsum, St.b]; omega

/-- On the way: n places were seen; what may be changed by it are the blocks of BL. -/
structure AlI (Inv : Nat → List Nat → World → Prop) (BL0 : List Nat) (w W : World) (n : Nat) (BL : List Nat) : Prop where
  inv : Inv n BL W
  only : Only BL0 w W
  own : ∀ g ∈ BL, g ∈ BL0 ∨ w.heap.size ≤ g
section
variable {Inv : Nat → List Nat → World → Prop} {BL0 BL BL' : List Nat} {w W W' : World} {n : Nat}
theorem AlI.start (h : Inv 0 BL0 w) : AlI Inv BL0 w w 0 BL0 := ⟨h, Only.refl _ _, fun _ hg => .inl hg⟩
theorem AlI.alloc (h : AlI Inv BL0 w W n BL) (hal : ∀ i BL W x, Inv i BL W → Inv i BL (W.alloc x)) (x : Obj) : AlI Inv BL0 w (W.alloc x) n BL := ⟨hal _ _ _ _ h.inv, h.only.trans (Only.alloc _ _ _), h.own⟩
theorem AlI.call (h : AlI Inv BL0 w W n BL) (hi : Inv (n + 1) BL' W') (ho : Only BL W W') (hb : ∀ g ∈ BL', g ∈ BL ∨ W.heap.size ≤ g) : AlI Inv BL0 w W' (n + 1) BL' := by
  refine ⟨hi, h.only.new ho h.own, fun g hg => ?_⟩
  rcases hb g hg with h1 | h1
  · exact h.own g h1
  · have := h.only.size; exact .inr (by omega)
theorem AlI.not (h : AlI Inv BL0 w W n BL) {g : Nat} (h1 : g ∉ BL0) (h2 : g < w.heap.size) : g ∉ BL := fun hg => (h.own g hg).elim h1 (fun h => by omega)
end
/-- A box of an operation that along has made. -/
def BoxD (W : World) (b : Nat) (BL : List Nat) (o : OpD) : Prop := W.heap[b]? = some (.cells #[.int .i64 o.k, .int .i64 o.n, .string o.t] 59 (0, 0)) ∧ b ∉ BL
theorem BoxD.cells {W : World} {b : Nat} {BL : List Nat} {o : OpD} (h : BoxD W b BL o) : W.cell? ⟨b, 0, none⟩ = some (.int .i64 o.k) ∧ W.cell? ⟨b, 1, none⟩ = some (.int .i64 o.n) ∧ W.cell? ⟨b, 2, none⟩ = some (.string o.t) :=
  ⟨cell_of_row _ _ 0 _ _ (0, 0) h.1, cell_of_row _ _ 1 _ _ (0, 0) h.1, cell_of_row _ _ 2 _ _ (0, 0) h.1⟩
theorem BoxD.call {W W' : World} {b : Nat} {BL BL' : List Nat} {o : OpD} (h : BoxD W b BL o) (ho : Only BL W W') (hb : ∀ g ∈ BL', g ∈ BL ∨ W.heap.size ≤ g) : BoxD W' b BL' o := by
  have hl := heap_lt h.1
  exact ⟨only_heap h.1 ho h.2, fun hg => (hb b hg).elim h.2 (fun h => by omega)⟩

/-- The place that comes next. -/
theorem spot_at {A E C : List Spot} {s : Spot} (h : A = E ++ (s :: C)) : A[E.length]? = some s := by rw [h]; simp

/-- A step that takes of the base. -/
def St.num : St → Option (Int × Nat)
  | .keep n => some (1, n)
  | .rem n => some (3, n)
  | .ins _ => none
theorem spots_num {s : St} {k : Int} {n : Nat} (h : s.num = some (k, n)) (ds : List St) (p : ByteArray) : spots (s :: ds) p = reps p k n ++ spots ds ⟨#[]⟩ ∧ s.op = ⟨k, n, ⟨#[]⟩⟩ ∧ k ≠ 2 := by
  cases s with
  | keep m => simp only [St.num, Option.some.injEq, Prod.mk.injEq] at h; obtain ⟨rfl, rfl⟩ := h; exact ⟨rfl, rfl, by decide⟩
  | rem m => simp only [St.num, Option.some.injEq, Prod.mk.injEq] at h; obtain ⟨rfl, rfl⟩ := h; exact ⟨rfl, rfl, by decide⟩
  | ins t => cases h

set_option maxRecDepth 20000 in
set_option maxHeartbeats 1500000 in
theorem along_any (F : FuncId) (hF : ∀ (args : Array Value) (w : World), Sem.run Tryz.prog (callFunc F args) w = .ok (.enter F args) w) (caps : Array Value) (v : Value) (ds : List St) (w : World) (Inv : Nat → List Nat → World → Prop) (BL0 : List Nat)
    (hr : RdD w v (ds.map St.op)) (hv : ∀ g, v.ownBlock = some g → g ∉ BL0) (hok : ∀ s ∈ ds, s.Ok) (hbs : bsum ds ≤ 1000) (hdl : ds.length ≤ 3000)
    (hal : ∀ i BL W x, Inv i BL W → Inv i BL (W.alloc x)) (hlt : ∀ i BL W, Inv i BL W → ∀ g ∈ BL, g < W.heap.size)
    (hsee : ∀ (i : Nat) (s : Spot) (BL : List Nat) (W : World), (spots ds ⟨#[]⟩)[i]? = some s → Inv i BL W → Calls Tryz.prog F (#[.int .i64 i, .agg #[.string s.put, .int .i64 s.k]] ++ caps) W fun e w' => e = .returned (.tuple #[]) ∧ ∃ BL', Inv (i + 1) BL' w' ∧ Only BL W w' ∧ ∀ g ∈ BL', g ∈ BL ∨ W.heap.size ≤ g)
    (h0 : Inv 0 BL0 w) : Calls Tryz.prog 104 #[v, .func (.func F) #[] caps] w fun e w' => e = .returned (.tuple #[]) ∧ ∃ BL, AlI Inv BL0 w w' (bsum ds + 1) BL := by
  have hrd : ∀ W, Only BL0 w W → RdD W v (ds.map St.op) := fun W ho => rdd_only hr ho hv
  have hS := AlI.start h0
  have HL : Hid ((spots ds ⟨#[]⟩).length = bsum ds + 1) := spots_len ds _
  obtain ⟨ao, cp, rfl, _⟩ := id hr
  rw [List.length_map] at *
  go_enter Tryz.func104, Tryz.ntmps104
  go_wp2_with fail
  go_loopw [4, 5, 10] (fun place put i wr => ∃ (k : Nat) (E : List Spot) (p : ByteArray) (BL : List Nat), k ≤ ds.length ∧ Hid (spots ds ⟨#[]⟩ = E ++ spots (ds.drop k) p) ∧ place = .int .i64 (E.length : Int) ∧ put = .string p ∧ i = .int .i64 (k : Int) ∧ AlI Inv BL0 w wr E.length BL) (fun _ _ i _ => ds.length - (Go.RowKit.intOf i).toNat)
  case atStart => exact ⟨0, [], ⟨#[]⟩, BL0, by omega, rfl, rfl, rfl, rfl, hS⟩
  case round =>
    obtain ⟨k, E, p, BL, hk, HE, rfl, rfl, rfl, hA⟩ := hrel
    have hEl : E.length ≤ 1000 := by
      have h1 := congrArg List.length HE.out
      have h2 := HL.out
      have h3 := spots_len (ds.drop k) p
      rw [List.length_append] at h1
      omega
    clear hS h0 hr
    by_cases c : k < ds.length
    · have c' : (k : Int) < (ds.length : Int) := by omega
      obtain ⟨_, _, e1, _, hcs⟩ := hrd wr hA.only
      obtain ⟨b, off, e2, hb, c0, c1, c2⟩ := hcs k (ds[k].op) (by simp [c])
      rw [List.length_map] at e1
      simp at e1
      obtain ⟨rfl, rfl⟩ := e1
      subst e2
      clear hcs
      have hs := hok ds[k] (by simp)
      have HD : Hid (ds.drop k = ds[k] :: ds.drop (k + 1)) := List.drop_eq_getElem_cons c
      generalize ds[k] = s at *
      have hnum : (∃ t, s = .ins t) ∨ ∃ kd n, s.num = some (kd, n) ∧ (kd = 1 ∨ kd = 3) ∧ 1 ≤ n ∧ n ≤ 1000 := by
        cases s with
        | ins t => exact .inl ⟨t, rfl⟩
        | keep n => exact .inr ⟨1, n, rfl, .inl rfl, hs.1, hs.2⟩
        | rem n => exact .inr ⟨3, n, rfl, .inr rfl, hs.1, hs.2⟩
      rcases hnum with ⟨t, rfl⟩ | ⟨kd, n, hn, hkd, hn1, hn2⟩
      · simp only [St.op] at c0 c1 c2
        have HE' : Hid (spots ds ⟨#[]⟩ = E ++ spots (ds.drop (k + 1)) t) := by show _ = _; rw [HE.out, HD.out, spots]
        have hB := hA.alloc hal (.cells #[.int .i64 2, .int .i64 0, .string t] 59)
        clear hA hrd hsee hal hlt HE HD
        go_wp2_with fail
        exact ⟨⟨k + 1, E, t, BL, by omega, HE', rfl, rfl, by go_num, hB⟩, by simp only [Go.RowKit.intOf]; omega⟩
      · obtain ⟨hsp, hop, _⟩ := spots_num hn (ds.drop (k + 1)) p
        rw [hop] at c0 c1 c2
        simp only at c0 c1 c2
        have HE' : Hid (spots ds ⟨#[]⟩ = E ++ (reps p kd n ++ spots (ds.drop (k + 1)) ⟨#[]⟩)) := by show _ = _; rw [HE.out, HD.out, hsp]
        clear HE HD hsp hop hn hs
        rcases hkd with rfl | rfl
        · have hB := hA.alloc hal (.cells #[.int .i64 1, .int .i64 n, .string ⟨#[]⟩] 59)
          have hX : BoxD (wr.alloc (.cells #[.int .i64 1, .int .i64 n, .string ⟨#[]⟩] 59)) wr.heap.size BL ⟨1, n, ⟨#[]⟩⟩ := ⟨heap_alloc_new _ _, fun hg => by have := hlt _ _ _ hA.inv _ hg; omega⟩
          clear hA hrd
          go_wp2_with fail
          go_loopw [4, 5, 21] (fun place put j wx => ∃ (m : Nat) (E2 : List Spot) (p2 : ByteArray) (BL2 : List Nat), m ≤ n ∧ Hid (spots ds ⟨#[]⟩ = E2 ++ (reps p2 1 (n - m) ++ spots (ds.drop (k + 1)) ⟨#[]⟩)) ∧ (0 < m → p2 = ⟨#[]⟩) ∧ place = .int .i64 (E2.length : Int) ∧ put = .string p2 ∧ j = .int .i64 (m : Int) ∧ AlI Inv BL0 w wx E2.length BL2 ∧ BoxD wx wr.heap.size BL2 ⟨1, n, ⟨#[]⟩⟩) (fun _ _ j _ => n - (Go.RowKit.intOf j).toNat)
          case atStart => exact ⟨0, E, p, BL, by omega, HE', by omega, rfl, rfl, rfl, hB, hX⟩
          case round =>
            obtain ⟨m, E2, p2, BL2, hm, HE2, hp2, rfl, rfl, rfl, hA2, hX2⟩ := hrel
            have hEl2 : E2.length ≤ 1000 := by
              have h1 := congrArg List.length HE2.out
              have h2 := HL.out
              have h3 := spots_len (ds.drop (k + 1)) ⟨#[]⟩
              rw [List.length_append, List.length_append] at h1
              omega
            clear hB hX HE' hEl c0 c1 c2
            obtain ⟨x0, x1, x2⟩ := hX2.cells
            by_cases cm : m < n
            · have cm' : (m : Int) < (n : Int) := by omega
              have hre : reps p2 1 (n - m) = ⟨p2, 1⟩ :: reps ⟨#[]⟩ 1 (n - (m + 1)) := by
                obtain ⟨q, hq⟩ : ∃ q, n - m = q + 1 := ⟨n - m - 1, by omega⟩
                rw [hq, show n - (m + 1) = q by omega]; rfl
              have HE3 : Hid (spots ds ⟨#[]⟩ = E2 ++ (⟨p2, 1⟩ :: (reps ⟨#[]⟩ 1 (n - (m + 1)) ++ spots (ds.drop (k + 1)) ⟨#[]⟩))) := by show _ = _; rw [HE2.out, hre, List.cons_append]
              have hC := hsee E2.length ⟨p2, 1⟩ BL2 _ (spot_at HE3.out) hA2.inv
              clear hsee hal hre HE2 hp2
              go_wp2_with fail
              refine hC.mono ?_
              rintro e w1 ⟨rfl, BL3, hI3, ho3, hb3⟩
              clear hC
              have hA3 := hA2.call hI3 ho3 hb3
              have hX3 := hX2.call ho3 hb3
              clear hA2 hX2
              go_wp2_with fail
              refine ⟨⟨m + 1, E2 ++ [⟨p2, 1⟩], ⟨#[]⟩, BL3, by omega, ?_, fun _ => rfl, by simp, rfl, by go_num, ?_, hX3⟩, by simp only [Go.RowKit.intOf]; omega⟩
              · show _ = _
                rw [HE3.out, List.append_assoc]; rfl
              · rw [List.length_append]; exact hA3
            · obtain rfl : m = n := by omega
              have hp3 := hp2 (by omega)
              subst hp3
              have HE3 : Hid (spots ds ⟨#[]⟩ = E2 ++ spots (ds.drop (k + 1)) ⟨#[]⟩) := by
                show _ = _
                have := HE2.out
                rw [Nat.sub_self, reps, List.nil_append] at this
                exact this
              clear hsee hal HE2 hp2 hX2
              go_wp2_with fail
              exact ⟨⟨k + 1, E2, ⟨#[]⟩, BL2, by omega, HE3, rfl, rfl, by go_num, hA2⟩, by simp only [Go.RowKit.intOf]; omega⟩
        · have hB := hA.alloc hal (.cells #[.int .i64 3, .int .i64 n, .string ⟨#[]⟩] 59)
          have hX : BoxD (wr.alloc (.cells #[.int .i64 3, .int .i64 n, .string ⟨#[]⟩] 59)) wr.heap.size BL ⟨3, n, ⟨#[]⟩⟩ := ⟨heap_alloc_new _ _, fun hg => by have := hlt _ _ _ hA.inv _ hg; omega⟩
          clear hA hrd
          go_wp2_with fail
          go_loopw [4, 5, 21] (fun place put j wx => ∃ (m : Nat) (E2 : List Spot) (p2 : ByteArray) (BL2 : List Nat), m ≤ n ∧ Hid (spots ds ⟨#[]⟩ = E2 ++ (reps p2 3 (n - m) ++ spots (ds.drop (k + 1)) ⟨#[]⟩)) ∧ (0 < m → p2 = ⟨#[]⟩) ∧ place = .int .i64 (E2.length : Int) ∧ put = .string p2 ∧ j = .int .i64 (m : Int) ∧ AlI Inv BL0 w wx E2.length BL2 ∧ BoxD wx wr.heap.size BL2 ⟨3, n, ⟨#[]⟩⟩) (fun _ _ j _ => n - (Go.RowKit.intOf j).toNat)
          case atStart => exact ⟨0, E, p, BL, by omega, HE', by omega, rfl, rfl, rfl, hB, hX⟩
          case round =>
            obtain ⟨m, E2, p2, BL2, hm, HE2, hp2, rfl, rfl, rfl, hA2, hX2⟩ := hrel
            have hEl2 : E2.length ≤ 1000 := by
              have h1 := congrArg List.length HE2.out
              have h2 := HL.out
              have h3 := spots_len (ds.drop (k + 1)) ⟨#[]⟩
              rw [List.length_append, List.length_append] at h1
              omega
            clear hB hX HE' hEl c0 c1 c2
            obtain ⟨x0, x1, x2⟩ := hX2.cells
            by_cases cm : m < n
            · have cm' : (m : Int) < (n : Int) := by omega
              have hre : reps p2 3 (n - m) = ⟨p2, 3⟩ :: reps ⟨#[]⟩ 3 (n - (m + 1)) := by
                obtain ⟨q, hq⟩ : ∃ q, n - m = q + 1 := ⟨n - m - 1, by omega⟩
                rw [hq, show n - (m + 1) = q by omega]; rfl
              have HE3 : Hid (spots ds ⟨#[]⟩ = E2 ++ (⟨p2, 3⟩ :: (reps ⟨#[]⟩ 3 (n - (m + 1)) ++ spots (ds.drop (k + 1)) ⟨#[]⟩))) := by show _ = _; rw [HE2.out, hre, List.cons_append]
              have hC := hsee E2.length ⟨p2, 3⟩ BL2 _ (spot_at HE3.out) hA2.inv
              clear hsee hal hre HE2 hp2
              go_wp2_with fail
              refine hC.mono ?_
              rintro e w1 ⟨rfl, BL3, hI3, ho3, hb3⟩
              clear hC
              have hA3 := hA2.call hI3 ho3 hb3
              have hX3 := hX2.call ho3 hb3
              clear hA2 hX2
              go_wp2_with fail
              refine ⟨⟨m + 1, E2 ++ [⟨p2, 3⟩], ⟨#[]⟩, BL3, by omega, ?_, fun _ => rfl, by simp, rfl, by go_num, ?_, hX3⟩, by simp only [Go.RowKit.intOf]; omega⟩
              · show _ = _
                rw [HE3.out, List.append_assoc]; rfl
              · rw [List.length_append]; exact hA3
            · obtain rfl : m = n := by omega
              have hp3 := hp2 (by omega)
              subst hp3
              have HE3 : Hid (spots ds ⟨#[]⟩ = E2 ++ spots (ds.drop (k + 1)) ⟨#[]⟩) := by
                show _ = _
                have := HE2.out
                rw [Nat.sub_self, reps, List.nil_append] at this
                exact this
              clear hsee hal HE2 hp2 hX2
              go_wp2_with fail
              exact ⟨⟨k + 1, E2, ⟨#[]⟩, BL2, by omega, HE3, rfl, rfl, by go_num, hA2⟩, by simp only [Go.RowKit.intOf]; omega⟩
    · obtain rfl : k = ds.length := by omega
      have HE' : Hid (spots ds ⟨#[]⟩ = E ++ [⟨p, 0⟩]) := by show _ = _; have := HE.out; rw [List.drop_length, spots] at this; exact this
      have hC := hsee E.length ⟨p, 0⟩ BL wr (spot_at HE'.out) hA.inv
      have hN : Hid (E.length + 1 = bsum ds + 1) := by
        have h1 := congrArg List.length HE'.out
        have h2 := HL.out
        rw [List.length_append] at h1
        show _ = _
        simp at h1
        omega
      clear hsee hrd hal
      go_wp2_with fail
      refine hC.mono ?_
      rintro e w1 ⟨rfl, BL3, hI3, ho3, hb3⟩
      go_wp2_with fail
      go_end0
      refine ⟨rfl, BL3, ?_⟩
      rw [← hN.out]
      exact hA.call hI3 ho3 hb3
end Go.Proofs.YtcdnlkhjlgaaoaaGreatDoor

/-
  The map of a delta's places; the contract of what fills it.
-/
namespace Go.Proofs.YtcdnlkhjlgaaoaaGreatDoor
open Go.ChangeShapes Go.WideShapes Go.ChangeAt Go.RowKit Go.PlainAid Go.Maps

/-- A place's doings as bytes. -/
def spE (s : Spot) : Sec := UInt8.ofNat s.k.toNat :: s.put.data.toList
def Spot.val (s : Spot) : Value := .agg #[.string s.put, .int .i64 s.k]
def Spot.Ok (s : Spot) : Prop := 0 ≤ s.k ∧ s.k < 256
def spotR (v : Value) : Option (DataW Unit × List MemPlace) :=
  match v with
  | .agg cs => match cs.toList with
    | [.string p, .int .i64 k] => if 0 ≤ k ∧ k < 256 then some (.lit (.string (spE ⟨p, k⟩)), []) else none
    | _ => none
  | _ => none
theorem spotR_mk {s : Spot} (h : s.Ok) : spotR s.val = some (.lit (.string (spE s)), []) := by
  simp only [spotR, Spot.val]
  exact if_pos h
theorem spotR_inv {v : Value} {z : DataW Unit × List MemPlace} (h : spotR v = some z) : ∃ s : Spot, v = s.val ∧ s.Ok ∧ z = (.lit (.string (spE s)), []) := by
  unfold spotR at h
  split at h
  · rename_i cs
    split at h
    · rename_i p k hl
      split at h
      · rename_i hk
        refine ⟨⟨p, k⟩, ?_, hk, (Option.some.inj h).symm⟩
        rw [Spot.val, ← hl]
      · cases h
    · cases h
  · cases h
theorem spE_inj {s t : Spot} (hs : s.Ok) (ht : t.Ok) (h : spE s = spE t) : s = t := by
  obtain ⟨p, k⟩ := s
  obtain ⟨q, j⟩ := t
  simp only [spE, List.cons.injEq] at h
  obtain ⟨h1, h2⟩ := h
  have e1 : p = q := by
    obtain ⟨p⟩ := p
    obtain ⟨q⟩ := q
    congr 1
    exact Array.toList_inj.1 h2
  subst e1
  simp only [Spot.Ok] at hs ht
  have h3 := congrArg UInt8.toNat h1
  simp only [UInt8.toNat_ofNat'] at h3
  have : k = j := by omega
  rw [this]

/-- The map of places. -/
def spF (l : List Spot) : SecF := fun i => (l[i]?).map spE
theorem spF_snoc (l : List Spot) (s : Spot) : putF (spF l) l.length (spE s) = spF (l ++ [s]) := by
  funext i
  unfold putF spF
  by_cases h : i = l.length
  · subst h; simp
  · rw [if_neg h]
    by_cases h2 : i < l.length
    · rw [List.getElem?_append_left h2]
    · rw [List.getElem?_eq_none (by omega), List.getElem?_eq_none (by simp; omega)]

theorem wf_i64 {k : Int} (h0 : -9223372036854775808 ≤ k) (h1 : k ≤ 9223372036854775807) : (Lit.int .i64 k).wf = true := by
  have e0 : IntKind.i64.min = -9223372036854775808 := by decide
  have e1 : IntKind.i64.max = 9223372036854775807 := by decide
  simp only [Lit.wf, e0, e1, h0, h1, decide_true, Bool.and_self]
theorem keyed : Keyed Tryz.prog 3 := int_keyed Tryz.underlying3
theorem key_nat (i : Nat) (h : i ≤ 8192) : keyOf Tryz.prog 3 (.int .i64 (i : Int)) = some (.int .i64 (i : Int)) :=
  keyOf_int_mk Tryz.underlying3 (wf_i64 (by omega) (by omega))
theorem Tryz.infoSp : (Tryz.prog.info? 155).map (fun i => (i.zero, i.size)) = some (some (.agg #[.string ⟨#[]⟩, .int .i64 0]), 2) := by kernel_rfl
theorem Tryz.zeroSp (u : World) : (zeroValue 155).run Tryz.prog u = .ok (.agg #[.string ⟨#[]⟩, .int .i64 0]) u := (zero_of_info Tryz.infoSp).1 u
theorem Tryz.sizeSp : (Tryz.prog.info? 155).map (·.size) = some 2 := (zero_of_info Tryz.infoSp).2

theorem ownsMap_only {P : Program} {k : TypeId} {R : Value → Option (DataW Unit × List MemPlace)} {w w' : World} {b n : Nat} {D : DataW Unit} {S : List Nat} (h : w.ownsMap P k R b n D) (ho : Only S w w') (hb : b ∉ S) : w'.ownsMap P k R b n D := by
  have hlt := h.lt
  obtain ⟨es, clock, hh, F, hs, hD⟩ := h
  exact ⟨es, clock, (ho.block b hlt hb).trans hh, F, hs, hD⟩
theorem tightS {w : World} {b m N : Nat} {f : SecF} (h : w.ownsMap Tryz.prog 3 spotR b m (DF N f)) : w.ownsMap Tryz.prog 3 spotR b N (DF N f) := by
  obtain ⟨es, c, hb, F, _, hD⟩ := h
  refine ⟨es, c, hb, F, ?_, hD⟩
  have := size_DF N f
  rw [hD, size_eq, length_sorted] at this
  simpa using this
/-- A map of places at m. -/
def MpS (W : World) (m : Nat) (l : List Spot) : Prop := W.ownsMap Tryz.prog 3 spotR m 2000 (DF 2000 (spF l))
theorem MpS.only {W W' : World} {m : Nat} {l : List Spot} {S : List Nat} (h : MpS W m l) (ho : Only S W W') (hm : m ∉ S) : MpS W' m l := ownsMap_only h ho hm
theorem MpS.lookup {W : World} {m : Nat} {l : List Spot} (h : MpS W m l) {i : Nat} {s : Spot} (hs : l[i]? = some s) (hok : s.Ok) (hl : l.length ≤ 2000) :
    (Instr.lookup 152 (.map (some m)) (.int .i64 (i : Int)) false).run Tryz.prog W = .ok (.agg #[.string s.put, .int .i64 s.k]) W := by
  have hi : i < l.length := (List.getElem?_eq_some_iff.1 hs).1
  have hz : spotR (.agg #[.string ⟨#[]⟩, .int .i64 0]) = some (.lit (.string (spE ⟨⟨#[]⟩, 0⟩)), []) := spotR_mk (s := ⟨⟨#[]⟩, 0⟩) ⟨by decide, by decide⟩
  obtain ⟨v, ps, hrun, hR⟩ := World.ownsMap.lookup h keyed Tryz.underlying152 (Tryz.zeroSp W) hz (key_nat i (by omega))
  obtain ⟨t, rfl, ht, hzz⟩ := spotR_inv hR
  rw [hrun]
  rw [atKey_DF (N := 2000) (f := spF l) (i := i) (s := spE s) (by omega) (by simp [spF, hs])] at hzz
  simp only [Prod.mk.injEq, DataW.lit.injEq, Lit.string.injEq] at hzz
  rw [← spE_inj hok ht hzz.1]
  rfl

/-- What the first closure has: the map's cell and the map. -/
structure I1 (S : List Spot) (p m : Nat) (i : Nat) (BL : List Nat) (W : World) : Prop where
  bl : BL = [m]
  cp : W.heap[p]? = some (.cells #[.map (some m)] 152 (0, 0))
  mp : MpS W m (S.take i)
  ne : p ≠ m
theorem I1.alloc {S : List Spot} {p m i : Nat} {BL : List Nat} {W : World} (h : I1 S p m i BL W) (x : Obj) : I1 S p m i BL (W.alloc x) :=
  ⟨h.bl, only_heap h.cp (Only.alloc [] W x) (by simp), h.mp.only (Only.alloc [] W x) (by simp), h.ne⟩
theorem I1.lt {S : List Spot} {p m i : Nat} {BL : List Nat} {W : World} (h : I1 S p m i BL W) : ∀ g ∈ BL, g < W.heap.size := by
  intro g hg
  rw [h.bl] at hg
  simp at hg
  subst hg
  exact World.ownsMap.lt h.mp

set_option maxRecDepth 20000 in
set_option maxHeartbeats 1500000 in
theorem see1_any {S : List Spot} {p m i : Nat} {BL : List Nat} {W : World} (h : I1 S p m i BL W) {s : Spot} (hs : S[i]? = some s) (hok : s.Ok) (hl : S.length ≤ 1500) :
    Calls Tryz.prog 105 #[.int .i64 (i : Int), .agg #[.string s.put, .int .i64 s.k], .pointer (some ⟨p, 0, none⟩)] W fun e w' => e = .returned (.tuple #[]) ∧ ∃ BL', I1 S p m (i + 1) BL' w' ∧ Only BL W w' ∧ ∀ g ∈ BL', g ∈ BL ∨ W.heap.size ≤ g := by
  have hi : i < S.length := (List.getElem?_eq_some_iff.1 hs).1
  have hbl := h.bl
  subst hbl
  have hA := h.alloc (.cells #[.string s.put, .int .i64 s.k] 155)
  have hcp : (W.alloc (.cells #[.string s.put, .int .i64 s.k] 155)).cell? ⟨p, 0, none⟩ = some (.map (some m)) := cell_of_row _ _ 0 _ _ (0, 0) hA.cp
  have hmp : (W.alloc (.cells #[.string s.put, .int .i64 s.k] 155)).ownsMap Tryz.prog 3 spotR m 2000 (DF 2000 (spF (S.take i))) := hA.mp
  have hval : spotR (.agg #[.string s.put, .int .i64 s.k]) = some (.lit (.string (spE s)), []) := spotR_mk hok
  have hkey := key_nat i (by omega)
  have HT : Hid (S.take (i + 1) = S.take i ++ [s] ∧ (S.take i).length = i) := by
    refine ⟨?_, by rw [List.length_take]; omega⟩
    rw [List.take_add_one, hs]; rfl
  go_enter Tryz.func105, Tryz.ntmps105
  go_wp2_with (at_mapUpdate; refine wpList_mapUpdate_own _ rfl _ _ _ 152 rfl 3 155 keyed Tryz.underlying152 spotR m _ _ rfl hmp (by unfold maxLen; omega) _ _ _ rfl rfl hkey _ _ hval ?_; intro w3 hown3 hg3)
  go_end0
  have hO : Only [m] (W.alloc (.cells #[.string s.put, .int .i64 s.k] 155)) w3 := Only.of_grown hg3 (by simp)
  refine ⟨rfl, [m], ⟨rfl, only_heap hA.cp hO (by simp; exact hA.ne), ?_, hA.ne⟩, (Only.alloc _ _ _).trans hO, fun _ hg => .inl (by simpa using hg)⟩
  rw [put_DF (spE s) (by omega)] at hown3
  have e : putF (spF (S.take i)) i (spE s) = spF (S.take (i + 1)) := by
    rw [HT.out.1, ← spF_snoc, HT.out.2]
  rw [e] at hown3
  exact tightS hown3
end Go.Proofs.YtcdnlkhjlgaaoaaGreatDoor
