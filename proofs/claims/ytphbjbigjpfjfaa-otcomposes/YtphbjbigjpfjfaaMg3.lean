/- Texts of one proof, one behind the other: OtS, OtT, OtU, OtV, OtW, OtX, OtZ, OtL, DrA, DrE, DrF, DrG, DrH, DrI. -/
import Derived.Test.YtphbjbigjpfjfaaMg2
import Derived.Maps.RangeWalk
import Derived.Deep.WholeRow
import Derived.Deep.RegionHeld3
import Derived.Deep.DeepCutAuto
import Derived.Deep.RegionLaw
import Derived.Deep.AppendLies
import Derived.Laws.Cover4
import Derived.Laws.IdiomStrings
import Derived.Deep.QuietTactic
import Derived.BigQuiet
import Derived.Laws.OwnMore
import Derived.StillTail
import Derived.StillTactics

/-
  What a normal delta does at each place; the contract of along, for whatever has the places seen.
-/
namespace Go.Proofs.Ytphbjbigjpfjfaa
open Go.ChangeShapes Go.WideShapes Go.ChangeAt Go.RowKit Go.PlainAid

/-- What a normal delta does at a place. -/
structure Spot where
  put : ByteArray
  k : Int
def reps (p : ByteArray) (k : Int) : Nat → List Spot
  | 0 => []
  | n + 1 => ⟨p, k⟩ :: reps ⟨#[]⟩ k n
def spots : List St → ByteArray → List Spot
  | [], p => [⟨p, 0⟩]
  | .ins t :: ds, _ => spots ds t
  | .keep n :: ds, p => reps p 1 n ++ spots ds ⟨#[]⟩
  | .rem n :: ds, p => reps p 3 n ++ spots ds ⟨#[]⟩
theorem reps_len (p : ByteArray) (k : Int) (n : Nat) : (reps p k n).length = n := by
  induction n generalizing p with
  | zero => rfl
  | succ n ih => rw [reps, List.length_cons, ih]
theorem spots_len : ∀ (ds : List St) (p : ByteArray), (spots ds p).length = bsum ds + 1
  | [], p => by simp [spots, bsum]
  | .ins t :: ds, p => by rw [spots, spots_len ds]; simp [bsum, St.b]
  | .keep n :: ds, p => by rw [spots, List.length_append, reps_len, spots_len ds]; simp [bsum, St.b]; omega
  | .rem n :: ds, p => by rw [spots, List.length_append, reps_len, spots_len ds]; simp [bsum, St.b]; omega

/-- On the way: n places were seen; what may be changed by it are the blocks of BL. -/
structure AlI (Inv : Nat → List Nat → World → Prop) (BL0 : List Nat) (w W : World) (n : Nat) (BL : List Nat) : Prop where
  inv : Inv n BL W
  only : Only BL0 w W
  own : ∀ g ∈ BL, g ∈ BL0 ∨ w.heap.size ≤ g
section
variable {Inv : Nat → List Nat → World → Prop} {BL0 BL BL' : List Nat} {w W W' : World} {n : Nat}
theorem AlI.start (h : Inv 0 BL0 w) : AlI Inv BL0 w w 0 BL0 := ⟨h, Only.refl _ _, fun _ hg => .inl hg⟩
theorem AlI.alloc (h : AlI Inv BL0 w W n BL) (hal : ∀ i BL W x, Inv i BL W → Inv i BL (W.alloc x)) (x : Obj) : AlI Inv BL0 w (W.alloc x) n BL := ⟨hal _ _ _ _ h.inv, h.only.trans (Only.alloc _ _ _), h.own⟩
theorem AlI.call (h : AlI Inv BL0 w W n BL) (hi : Inv (n + 1) BL' W') (ho : Only BL W W') (hb : ∀ g ∈ BL', g ∈ BL ∨ W.heap.size ≤ g) : AlI Inv BL0 w W' (n + 1) BL' := by
  refine ⟨hi, h.only.new ho h.own, fun g hg => ?_⟩
  rcases hb g hg with h1 | h1
  · exact h.own g h1
  · have := h.only.size; exact .inr (by omega)
theorem AlI.not (h : AlI Inv BL0 w W n BL) {g : Nat} (h1 : g ∉ BL0) (h2 : g < w.heap.size) : g ∉ BL := fun hg => (h.own g hg).elim h1 (fun h => by omega)
end
/-- A box of an operation that along has made. -/
def BoxD (W : World) (b : Nat) (BL : List Nat) (o : OpD) : Prop := W.heap[b]? = some (.cells #[.int .i64 o.k, .int .i64 o.n, .string o.t] 50 (0, 0)) ∧ b ∉ BL
theorem BoxD.cells {W : World} {b : Nat} {BL : List Nat} {o : OpD} (h : BoxD W b BL o) : W.cell? ⟨b, 0, none⟩ = some (.int .i64 o.k) ∧ W.cell? ⟨b, 1, none⟩ = some (.int .i64 o.n) ∧ W.cell? ⟨b, 2, none⟩ = some (.string o.t) :=
  ⟨cell_of_row _ _ 0 _ _ (0, 0) h.1, cell_of_row _ _ 1 _ _ (0, 0) h.1, cell_of_row _ _ 2 _ _ (0, 0) h.1⟩
theorem BoxD.call {W W' : World} {b : Nat} {BL BL' : List Nat} {o : OpD} (h : BoxD W b BL o) (ho : Only BL W W') (hb : ∀ g ∈ BL', g ∈ BL ∨ W.heap.size ≤ g) : BoxD W' b BL' o := by
  have hl := heap_lt h.1
  exact ⟨only_heap h.1 ho h.2, fun hg => (hb b hg).elim h.2 (fun h => by omega)⟩

/-- The place that comes next. -/
theorem spot_at {A E C : List Spot} {s : Spot} (h : A = E ++ (s :: C)) : A[E.length]? = some s := by rw [h]; simp

/-- A step that takes of the base. -/
def St.num : St → Option (Int × Nat)
  | .keep n => some (1, n)
  | .rem n => some (3, n)
  | .ins _ => none
theorem spots_num {s : St} {k : Int} {n : Nat} (h : s.num = some (k, n)) (ds : List St) (p : ByteArray) : spots (s :: ds) p = reps p k n ++ spots ds ⟨#[]⟩ ∧ s.op = ⟨k, n, ⟨#[]⟩⟩ ∧ k ≠ 2 := by
  cases s with
  | keep m => simp only [St.num, Option.some.injEq, Prod.mk.injEq] at h; obtain ⟨rfl, rfl⟩ := h; exact ⟨rfl, rfl, by decide⟩
  | rem m => simp only [St.num, Option.some.injEq, Prod.mk.injEq] at h; obtain ⟨rfl, rfl⟩ := h; exact ⟨rfl, rfl, by decide⟩
  | ins t => cases h

set_option maxRecDepth 20000 in
set_option maxHeartbeats 1500000 in
theorem along_any (F : FuncId) (hF : ∀ (args : Array Value) (w : World), Sem.run Try.prog (callFunc F args) w = .ok (.enter F args) w) (caps : Array Value) (v : Value) (ds : List St) (w : World) (Inv : Nat → List Nat → World → Prop) (BL0 : List Nat)
    (hr : RdD w v (ds.map St.op)) (hv : ∀ g, v.ownBlock = some g → g ∉ BL0) (hok : ∀ s ∈ ds, s.Ok) (hbs : bsum ds ≤ 1000) (hdl : ds.length ≤ 3000)
    (hal : ∀ i BL W x, Inv i BL W → Inv i BL (W.alloc x)) (hlt : ∀ i BL W, Inv i BL W → ∀ g ∈ BL, g < W.heap.size)
    (hsee : ∀ (i : Nat) (s : Spot) (BL : List Nat) (W : World), (spots ds ⟨#[]⟩)[i]? = some s → Inv i BL W → Calls Try.prog F (#[.int .i64 i, .agg #[.string s.put, .int .i64 s.k]] ++ caps) W fun e w' => e = .returned (.tuple #[]) ∧ ∃ BL', Inv (i + 1) BL' w' ∧ Only BL W w' ∧ ∀ g ∈ BL', g ∈ BL ∨ W.heap.size ≤ g)
    (h0 : Inv 0 BL0 w) : Calls Try.prog 47 #[v, .func (.func F) #[] caps] w fun e w' => e = .returned (.tuple #[]) ∧ ∃ BL, AlI Inv BL0 w w' (bsum ds + 1) BL := by
  have hrd : ∀ W, Only BL0 w W → RdD W v (ds.map St.op) := fun W ho => rdd_only hr ho hv
  have hS := AlI.start h0
  have HL : Hid ((spots ds ⟨#[]⟩).length = bsum ds + 1) := spots_len ds _
  obtain ⟨ao, cp, rfl, _⟩ := id hr
  rw [List.length_map] at *
  go_enter Try.func47, Try.ntmps47
  go_wp2_with fail
  go_loopw [4, 5, 10] (fun place put i wr => ∃ (k : Nat) (E : List Spot) (p : ByteArray) (BL : List Nat), k ≤ ds.length ∧ Hid (spots ds ⟨#[]⟩ = E ++ spots (ds.drop k) p) ∧ place = .int .i64 (E.length : Int) ∧ put = .string p ∧ i = .int .i64 (k : Int) ∧ AlI Inv BL0 w wr E.length BL) (fun _ _ i _ => ds.length - (intOf i).toNat)
  case atStart => exact ⟨0, [], ⟨#[]⟩, BL0, by omega, rfl, rfl, rfl, rfl, hS⟩
  case round =>
    obtain ⟨k, E, p, BL, hk, HE, rfl, rfl, rfl, hA⟩ := hrel
    have hEl : E.length ≤ 1000 := by
      have h1 := congrArg List.length HE.out
      have h2 := HL.out
      have h3 := spots_len (ds.drop k) p
      rw [List.length_append] at h1
      omega
    clear hS h0 hr
    by_cases c : k < ds.length
    · have c' : (k : Int) < (ds.length : Int) := by omega
      obtain ⟨_, _, e1, _, hcs⟩ := hrd wr hA.only
      obtain ⟨b, off, e2, hb, c0, c1, c2⟩ := hcs k (ds[k].op) (by simp [c])
      rw [List.length_map] at e1
      simp at e1
      obtain ⟨rfl, rfl⟩ := e1
      subst e2
      clear hcs
      have hs := hok ds[k] (by simp)
      have HD : Hid (ds.drop k = ds[k] :: ds.drop (k + 1)) := List.drop_eq_getElem_cons c
      generalize ds[k] = s at *
      have hnum : (∃ t, s = .ins t) ∨ ∃ kd n, s.num = some (kd, n) ∧ (kd = 1 ∨ kd = 3) ∧ 1 ≤ n ∧ n ≤ 1000 := by
        cases s with
        | ins t => exact .inl ⟨t, rfl⟩
        | keep n => exact .inr ⟨1, n, rfl, .inl rfl, hs.1, hs.2⟩
        | rem n => exact .inr ⟨3, n, rfl, .inr rfl, hs.1, hs.2⟩
      rcases hnum with ⟨t, rfl⟩ | ⟨kd, n, hn, hkd, hn1, hn2⟩
      · simp only [St.op] at c0 c1 c2
        have HE' : Hid (spots ds ⟨#[]⟩ = E ++ spots (ds.drop (k + 1)) t) := by show _ = _; rw [HE.out, HD.out, spots]
        have hB := hA.alloc hal (.cells #[.int .i64 2, .int .i64 0, .string t] 50)
        clear hA hrd hsee hal hlt HE HD
        go_wp2_with fail
        exact ⟨⟨k + 1, E, t, BL, by omega, HE', rfl, rfl, by go_num, hB⟩, by simp only [intOf]; omega⟩
      · obtain ⟨hsp, hop, _⟩ := spots_num hn (ds.drop (k + 1)) p
        rw [hop] at c0 c1 c2
        simp only at c0 c1 c2
        have HE' : Hid (spots ds ⟨#[]⟩ = E ++ (reps p kd n ++ spots (ds.drop (k + 1)) ⟨#[]⟩)) := by show _ = _; rw [HE.out, HD.out, hsp]
        clear HE HD hsp hop hn hs
        rcases hkd with rfl | rfl
        · have hB := hA.alloc hal (.cells #[.int .i64 1, .int .i64 n, .string ⟨#[]⟩] 50)
          have hX : BoxD (wr.alloc (.cells #[.int .i64 1, .int .i64 n, .string ⟨#[]⟩] 50)) wr.heap.size BL ⟨1, n, ⟨#[]⟩⟩ := ⟨heap_alloc_new _ _, fun hg => by have := hlt _ _ _ hA.inv _ hg; omega⟩
          clear hA hrd
          go_wp2_with fail
          go_loopw [4, 5, 21] (fun place put j wx => ∃ (m : Nat) (E2 : List Spot) (p2 : ByteArray) (BL2 : List Nat), m ≤ n ∧ Hid (spots ds ⟨#[]⟩ = E2 ++ (reps p2 1 (n - m) ++ spots (ds.drop (k + 1)) ⟨#[]⟩)) ∧ (0 < m → p2 = ⟨#[]⟩) ∧ place = .int .i64 (E2.length : Int) ∧ put = .string p2 ∧ j = .int .i64 (m : Int) ∧ AlI Inv BL0 w wx E2.length BL2 ∧ BoxD wx wr.heap.size BL2 ⟨1, n, ⟨#[]⟩⟩) (fun _ _ j _ => n - (intOf j).toNat)
          case atStart => exact ⟨0, E, p, BL, by omega, HE', by omega, rfl, rfl, rfl, hB, hX⟩
          case round =>
            obtain ⟨m, E2, p2, BL2, hm, HE2, hp2, rfl, rfl, rfl, hA2, hX2⟩ := hrel
            have hEl2 : E2.length ≤ 1000 := by
              have h1 := congrArg List.length HE2.out
              have h2 := HL.out
              have h3 := spots_len (ds.drop (k + 1)) ⟨#[]⟩
              rw [List.length_append, List.length_append] at h1
              omega
            clear hB hX HE' hEl c0 c1 c2
            obtain ⟨x0, x1, x2⟩ := hX2.cells
            by_cases cm : m < n
            · have cm' : (m : Int) < (n : Int) := by omega
              have hre : reps p2 1 (n - m) = ⟨p2, 1⟩ :: reps ⟨#[]⟩ 1 (n - (m + 1)) := by
                obtain ⟨q, hq⟩ : ∃ q, n - m = q + 1 := ⟨n - m - 1, by omega⟩
                rw [hq, show n - (m + 1) = q by omega]; rfl
              have HE3 : Hid (spots ds ⟨#[]⟩ = E2 ++ (⟨p2, 1⟩ :: (reps ⟨#[]⟩ 1 (n - (m + 1)) ++ spots (ds.drop (k + 1)) ⟨#[]⟩))) := by show _ = _; rw [HE2.out, hre, List.cons_append]
              have hC := hsee E2.length ⟨p2, 1⟩ BL2 _ (spot_at HE3.out) hA2.inv
              clear hsee hal hre HE2 hp2
              go_wp2_with fail
              refine hC.mono ?_
              rintro e w1 ⟨rfl, BL3, hI3, ho3, hb3⟩
              clear hC
              have hA3 := hA2.call hI3 ho3 hb3
              have hX3 := hX2.call ho3 hb3
              clear hA2 hX2
              go_wp2_with fail
              refine ⟨⟨m + 1, E2 ++ [⟨p2, 1⟩], ⟨#[]⟩, BL3, by omega, ?_, fun _ => rfl, by simp, rfl, by go_num, ?_, hX3⟩, by simp only [intOf]; omega⟩
              · show _ = _
                rw [HE3.out, List.append_assoc]; rfl
              · rw [List.length_append]; exact hA3
            · obtain rfl : m = n := by omega
              have hp3 := hp2 (by omega)
              subst hp3
              have HE3 : Hid (spots ds ⟨#[]⟩ = E2 ++ spots (ds.drop (k + 1)) ⟨#[]⟩) := by
                show _ = _
                have := HE2.out
                rw [Nat.sub_self, reps, List.nil_append] at this
                exact this
              clear hsee hal HE2 hp2 hX2
              go_wp2_with fail
              exact ⟨⟨k + 1, E2, ⟨#[]⟩, BL2, by omega, HE3, rfl, rfl, by go_num, hA2⟩, by simp only [intOf]; omega⟩
        · have hB := hA.alloc hal (.cells #[.int .i64 3, .int .i64 n, .string ⟨#[]⟩] 50)
          have hX : BoxD (wr.alloc (.cells #[.int .i64 3, .int .i64 n, .string ⟨#[]⟩] 50)) wr.heap.size BL ⟨3, n, ⟨#[]⟩⟩ := ⟨heap_alloc_new _ _, fun hg => by have := hlt _ _ _ hA.inv _ hg; omega⟩
          clear hA hrd
          go_wp2_with fail
          go_loopw [4, 5, 21] (fun place put j wx => ∃ (m : Nat) (E2 : List Spot) (p2 : ByteArray) (BL2 : List Nat), m ≤ n ∧ Hid (spots ds ⟨#[]⟩ = E2 ++ (reps p2 3 (n - m) ++ spots (ds.drop (k + 1)) ⟨#[]⟩)) ∧ (0 < m → p2 = ⟨#[]⟩) ∧ place = .int .i64 (E2.length : Int) ∧ put = .string p2 ∧ j = .int .i64 (m : Int) ∧ AlI Inv BL0 w wx E2.length BL2 ∧ BoxD wx wr.heap.size BL2 ⟨3, n, ⟨#[]⟩⟩) (fun _ _ j _ => n - (intOf j).toNat)
          case atStart => exact ⟨0, E, p, BL, by omega, HE', by omega, rfl, rfl, rfl, hB, hX⟩
          case round =>
            obtain ⟨m, E2, p2, BL2, hm, HE2, hp2, rfl, rfl, rfl, hA2, hX2⟩ := hrel
            have hEl2 : E2.length ≤ 1000 := by
              have h1 := congrArg List.length HE2.out
              have h2 := HL.out
              have h3 := spots_len (ds.drop (k + 1)) ⟨#[]⟩
              rw [List.length_append, List.length_append] at h1
              omega
            clear hB hX HE' hEl c0 c1 c2
            obtain ⟨x0, x1, x2⟩ := hX2.cells
            by_cases cm : m < n
            · have cm' : (m : Int) < (n : Int) := by omega
              have hre : reps p2 3 (n - m) = ⟨p2, 3⟩ :: reps ⟨#[]⟩ 3 (n - (m + 1)) := by
                obtain ⟨q, hq⟩ : ∃ q, n - m = q + 1 := ⟨n - m - 1, by omega⟩
                rw [hq, show n - (m + 1) = q by omega]; rfl
              have HE3 : Hid (spots ds ⟨#[]⟩ = E2 ++ (⟨p2, 3⟩ :: (reps ⟨#[]⟩ 3 (n - (m + 1)) ++ spots (ds.drop (k + 1)) ⟨#[]⟩))) := by show _ = _; rw [HE2.out, hre, List.cons_append]
              have hC := hsee E2.length ⟨p2, 3⟩ BL2 _ (spot_at HE3.out) hA2.inv
              clear hsee hal hre HE2 hp2
              go_wp2_with fail
              refine hC.mono ?_
              rintro e w1 ⟨rfl, BL3, hI3, ho3, hb3⟩
              clear hC
              have hA3 := hA2.call hI3 ho3 hb3
              have hX3 := hX2.call ho3 hb3
              clear hA2 hX2
              go_wp2_with fail
              refine ⟨⟨m + 1, E2 ++ [⟨p2, 3⟩], ⟨#[]⟩, BL3, by omega, ?_, fun _ => rfl, by simp, rfl, by go_num, ?_, hX3⟩, by simp only [intOf]; omega⟩
              · show _ = _
                rw [HE3.out, List.append_assoc]; rfl
              · rw [List.length_append]; exact hA3
            · obtain rfl : m = n := by omega
              have hp3 := hp2 (by omega)
              subst hp3
              have HE3 : Hid (spots ds ⟨#[]⟩ = E2 ++ spots (ds.drop (k + 1)) ⟨#[]⟩) := by
                show _ = _
                have := HE2.out
                rw [Nat.sub_self, reps, List.nil_append] at this
                exact this
              clear hsee hal HE2 hp2 hX2
              go_wp2_with fail
              exact ⟨⟨k + 1, E2, ⟨#[]⟩, BL2, by omega, HE3, rfl, rfl, by go_num, hA2⟩, by simp only [intOf]; omega⟩
    · obtain rfl : k = ds.length := by omega
      have HE' : Hid (spots ds ⟨#[]⟩ = E ++ [⟨p, 0⟩]) := by show _ = _; have := HE.out; rw [List.drop_length, spots] at this; exact this
      have hC := hsee E.length ⟨p, 0⟩ BL wr (spot_at HE'.out) hA.inv
      have hN : Hid (E.length + 1 = bsum ds + 1) := by
        have h1 := congrArg List.length HE'.out
        have h2 := HL.out
        rw [List.length_append] at h1
        show _ = _
        simp at h1
        omega
      clear hsee hrd hal
      go_wp2_with fail
      refine hC.mono ?_
      rintro e w1 ⟨rfl, BL3, hI3, ho3, hb3⟩
      go_wp2_with fail
      go_end0
      refine ⟨rfl, BL3, ?_⟩
      rw [← hN.out]
      exact hA.call hI3 ho3 hb3
end Go.Proofs.Ytphbjbigjpfjfaa

/-
  The map of a delta's places; the contract of what fills it.
-/
namespace Go.Proofs.Ytphbjbigjpfjfaa
open Go.ChangeShapes Go.WideShapes Go.ChangeAt Go.RowKit Go.PlainAid Go.Maps

/-- A place's doings as bytes. -/
def spE (s : Spot) : Sec := UInt8.ofNat s.k.toNat :: s.put.data.toList
def Spot.val (s : Spot) : Value := .agg #[.string s.put, .int .i64 s.k]
def Spot.Ok (s : Spot) : Prop := 0 ≤ s.k ∧ s.k < 256
def spotR (v : Value) : Option (DataW Unit × List MemPlace) :=
  match v with
  | .agg cs => match cs.toList with
    | [.string p, .int .i64 k] => if 0 ≤ k ∧ k < 256 then some (.lit (.string (spE ⟨p, k⟩)), []) else none
    | _ => none
  | _ => none
theorem spotR_mk {s : Spot} (h : s.Ok) : spotR s.val = some (.lit (.string (spE s)), []) := by
  simp only [spotR, Spot.val]
  exact if_pos h
theorem spotR_inv {v : Value} {z : DataW Unit × List MemPlace} (h : spotR v = some z) : ∃ s : Spot, v = s.val ∧ s.Ok ∧ z = (.lit (.string (spE s)), []) := by
  unfold spotR at h
  split at h
  · rename_i cs
    split at h
    · rename_i p k hl
      split at h
      · rename_i hk
        refine ⟨⟨p, k⟩, ?_, hk, (Option.some.inj h).symm⟩
        rw [Spot.val, ← hl]
      · cases h
    · cases h
  · cases h
theorem spE_inj {s t : Spot} (hs : s.Ok) (ht : t.Ok) (h : spE s = spE t) : s = t := by
  obtain ⟨p, k⟩ := s
  obtain ⟨q, j⟩ := t
  simp only [spE, List.cons.injEq] at h
  obtain ⟨h1, h2⟩ := h
  have e1 : p = q := by
    obtain ⟨p⟩ := p
    obtain ⟨q⟩ := q
    congr 1
    exact Array.toList_inj.1 h2
  subst e1
  simp only [Spot.Ok] at hs ht
  have h3 := congrArg UInt8.toNat h1
  simp only [UInt8.toNat_ofNat'] at h3
  have : k = j := by omega
  rw [this]

/-- The map of places. -/
def spF (l : List Spot) : SecF := fun i => (l[i]?).map spE
theorem spF_snoc (l : List Spot) (s : Spot) : putF (spF l) l.length (spE s) = spF (l ++ [s]) := by
  funext i
  unfold putF spF
  by_cases h : i = l.length
  · subst h; simp
  · rw [if_neg h]
    by_cases h2 : i < l.length
    · rw [List.getElem?_append_left h2]
    · rw [List.getElem?_eq_none (by omega), List.getElem?_eq_none (by simp; omega)]

theorem wf_i64 {k : Int} (h0 : -9223372036854775808 ≤ k) (h1 : k ≤ 9223372036854775807) : (Lit.int .i64 k).wf = true := by
  have e0 : IntKind.i64.min = -9223372036854775808 := by decide
  have e1 : IntKind.i64.max = 9223372036854775807 := by decide
  simp only [Lit.wf, e0, e1, h0, h1, decide_true, Bool.and_self]
theorem keyed : Keyed Try.prog 3 := int_keyed Try.underlying3
theorem key_nat (i : Nat) (h : i ≤ 8192) : keyOf Try.prog 3 (.int .i64 (i : Int)) = some (.int .i64 (i : Int)) :=
  keyOf_int_mk Try.underlying3 (wf_i64 (by omega) (by omega))
theorem Try.infoSp : (Try.prog.info? 81).map (fun i => (i.zero, i.size)) = some (some (.agg #[.string ⟨#[]⟩, .int .i64 0]), 2) := by kernel_rfl
theorem Try.zeroSp (u : World) : (zeroValue 81).run Try.prog u = .ok (.agg #[.string ⟨#[]⟩, .int .i64 0]) u := (zero_of_info Try.infoSp).1 u
theorem Try.sizeSp : (Try.prog.info? 81).map (·.size) = some 2 := (zero_of_info Try.infoSp).2

theorem ownsMap_only {P : Program} {k : TypeId} {R : Value → Option (DataW Unit × List MemPlace)} {w w' : World} {b n : Nat} {D : DataW Unit} {S : List Nat} (h : w.ownsMap P k R b n D) (ho : Only S w w') (hb : b ∉ S) : w'.ownsMap P k R b n D := by
  have hlt := h.lt
  obtain ⟨es, clock, hh, F, hs, hD⟩ := h
  exact ⟨es, clock, (ho.block b hlt hb).trans hh, F, hs, hD⟩
theorem tightS {w : World} {b m N : Nat} {f : SecF} (h : w.ownsMap Try.prog 3 spotR b m (DF N f)) : w.ownsMap Try.prog 3 spotR b N (DF N f) := by
  obtain ⟨es, c, hb, F, _, hD⟩ := h
  refine ⟨es, c, hb, F, ?_, hD⟩
  have := size_DF N f
  rw [hD, size_eq, length_sorted] at this
  simpa using this
/-- A map of places at m. -/
def MpS (W : World) (m : Nat) (l : List Spot) : Prop := W.ownsMap Try.prog 3 spotR m 2000 (DF 2000 (spF l))
theorem MpS.only {W W' : World} {m : Nat} {l : List Spot} {S : List Nat} (h : MpS W m l) (ho : Only S W W') (hm : m ∉ S) : MpS W' m l := ownsMap_only h ho hm
theorem MpS.lookup {W : World} {m : Nat} {l : List Spot} (h : MpS W m l) {i : Nat} {s : Spot} (hs : l[i]? = some s) (hok : s.Ok) (hl : l.length ≤ 2000) :
    (Instr.lookup 78 (.map (some m)) (.int .i64 (i : Int)) false).run Try.prog W = .ok (.agg #[.string s.put, .int .i64 s.k]) W := by
  have hi : i < l.length := (List.getElem?_eq_some_iff.1 hs).1
  have hz : spotR (.agg #[.string ⟨#[]⟩, .int .i64 0]) = some (.lit (.string (spE ⟨⟨#[]⟩, 0⟩)), []) := spotR_mk (s := ⟨⟨#[]⟩, 0⟩) ⟨by decide, by decide⟩
  obtain ⟨v, ps, hrun, hR⟩ := World.ownsMap.lookup h keyed Try.underlying78 (Try.zeroSp W) hz (key_nat i (by omega))
  obtain ⟨t, rfl, ht, hzz⟩ := spotR_inv hR
  rw [hrun]
  rw [atKey_DF (N := 2000) (f := spF l) (i := i) (s := spE s) (by omega) (by simp [spF, hs])] at hzz
  simp only [Prod.mk.injEq, DataW.lit.injEq, Lit.string.injEq] at hzz
  rw [← spE_inj hok ht hzz.1]
  rfl

/-- What the first closure has: the map's cell and the map. -/
structure I1 (S : List Spot) (p m : Nat) (i : Nat) (BL : List Nat) (W : World) : Prop where
  bl : BL = [m]
  cp : W.heap[p]? = some (.cells #[.map (some m)] 78 (0, 0))
  mp : MpS W m (S.take i)
  ne : p ≠ m
theorem I1.alloc {S : List Spot} {p m i : Nat} {BL : List Nat} {W : World} (h : I1 S p m i BL W) (x : Obj) : I1 S p m i BL (W.alloc x) :=
  ⟨h.bl, only_heap h.cp (Only.alloc [] W x) (by simp), h.mp.only (Only.alloc [] W x) (by simp), h.ne⟩
theorem I1.lt {S : List Spot} {p m i : Nat} {BL : List Nat} {W : World} (h : I1 S p m i BL W) : ∀ g ∈ BL, g < W.heap.size := by
  intro g hg
  rw [h.bl] at hg
  simp at hg
  subst hg
  exact World.ownsMap.lt h.mp

set_option maxRecDepth 20000 in
set_option maxHeartbeats 1500000 in
theorem see1_any {S : List Spot} {p m i : Nat} {BL : List Nat} {W : World} (h : I1 S p m i BL W) {s : Spot} (hs : S[i]? = some s) (hok : s.Ok) (hl : S.length ≤ 1500) :
    Calls Try.prog 48 #[.int .i64 (i : Int), .agg #[.string s.put, .int .i64 s.k], .pointer (some ⟨p, 0, none⟩)] W fun e w' => e = .returned (.tuple #[]) ∧ ∃ BL', I1 S p m (i + 1) BL' w' ∧ Only BL W w' ∧ ∀ g ∈ BL', g ∈ BL ∨ W.heap.size ≤ g := by
  have hi : i < S.length := (List.getElem?_eq_some_iff.1 hs).1
  have hbl := h.bl
  subst hbl
  have hA := h.alloc (.cells #[.string s.put, .int .i64 s.k] 81)
  have hcp : (W.alloc (.cells #[.string s.put, .int .i64 s.k] 81)).cell? ⟨p, 0, none⟩ = some (.map (some m)) := cell_of_row _ _ 0 _ _ (0, 0) hA.cp
  have hmp : (W.alloc (.cells #[.string s.put, .int .i64 s.k] 81)).ownsMap Try.prog 3 spotR m 2000 (DF 2000 (spF (S.take i))) := hA.mp
  have hval : spotR (.agg #[.string s.put, .int .i64 s.k]) = some (.lit (.string (spE s)), []) := spotR_mk hok
  have hkey := key_nat i (by omega)
  have HT : Hid (S.take (i + 1) = S.take i ++ [s] ∧ (S.take i).length = i) := by
    refine ⟨?_, by rw [List.length_take]; omega⟩
    rw [List.take_add_one, hs]; rfl
  go_enter Try.func48, Try.ntmps48
  go_wp2_with (at_mapUpdate; refine wpList_mapUpdate_own _ rfl _ _ _ 78 rfl 3 81 keyed Try.underlying78 spotR m _ _ rfl hmp (by unfold maxLen; omega) _ _ _ rfl rfl hkey _ _ hval ?_; intro w3 hown3 hg3)
  go_end0
  have hO : Only [m] (W.alloc (.cells #[.string s.put, .int .i64 s.k] 81)) w3 := Only.of_grown hg3 (by simp)
  refine ⟨rfl, [m], ⟨rfl, only_heap hA.cp hO (by simp; exact hA.ne), ?_, hA.ne⟩, (Only.alloc _ _ _).trans hO, fun _ hg => .inl (by simpa using hg)⟩
  rw [put_DF (spE s) (by omega)] at hown3
  have e : putF (spF (S.take i)) i (spE s) = spF (S.take (i + 1)) := by
    rw [HT.out.1, ← spF_snoc, HT.out.2]
  rw [e] at hown3
  exact tightS hown3
end Go.Proofs.Ytphbjbigjpfjfaa

/-
  The contract of what puts a place's operations behind the delta.
-/
namespace Go.Proofs.Ytphbjbigjpfjfaa
open Go.ChangeShapes Go.WideShapes Go.ChangeAt Go.RowKit Go.PlainAid Go.Maps

def mineO (x : Spot) : OpD := ⟨2, 0, x.put⟩
def thrsO (y : Spot) : OpD := ⟨1, cpl y.put, ⟨#[]⟩⟩
/-- What comes of one place. -/
def outO (first : Bool) (x y : Spot) : List OpD := ((if first then [mineO x, thrsO y] else [thrsO y, mineO x]).filter OpD.does) ++ (if y.k = 1 then [⟨x.k, 1, ⟨#[]⟩⟩] else [])
def tfO (first : Bool) (SA SB : List Spot) : List OpD := (List.zipWith (outO first) SA SB).flatten
theorem tfO_snoc {first : Bool} {SA SB : List Spot} {x y : Spot} (h : SA.length = SB.length) : tfO first (SA ++ [x]) (SB ++ [y]) = tfO first SA SB ++ outO first x y := by
  unfold tfO
  rw [List.zipWith_append h]
  simp

/-- A delta of the call's own whose slice lies in a cell. -/
structure Dc (B : Nat) (W : World) (p : Nat) (d : Value) (D : List OpD) : Prop where
  cell : W.heap[p]? = some (.cells #[d] 22 (0, 0))
  own : W.ownsRow B 50 3 d D.length (ocs D)
  le : B ≤ W.heap.size
theorem Dc.ap {B : Nat} {W : World} {p : Nat} {d : Value} {D : List OpD} (h : Dc B W p d D) : d.ownBlock ≠ some p := fun e => box_apart h.own h.cell (by decide) e.symm
theorem Dc.only {B : Nat} {W W' : World} {p : Nat} {d : Value} {D : List OpD} {S : List Nat} (h : Dc B W p d D) (ho : Only S W W') (h1 : p ∉ S) (h2 : ∀ g, d.ownBlock = some g → g ∉ S) : Dc B W' p d D :=
  ⟨only_heap h.cell ho h1, own_only h.own ho h2, Nat.le_trans h.le ho.size⟩
/-- Behind a call of withSome and the store. -/
theorem Dc.put {B : Nat} {W W' : World} {p : Nat} {d u : Value} {D D' : List OpD} (h : Dc B W p d D) (hw : Ws B W W' d u D') : Dc B (W'.setCell ⟨p, 0, none⟩ u) p u D' ∧ Only (p :: d.ownBlock.toList) W (W'.setCell ⟨p, 0, none⟩ u) ∧ ∀ g ∈ p :: u.ownBlock.toList, g ∈ p :: d.ownBlock.toList ∨ W.heap.size ≤ g := by
  have hp : W'.heap[p]? = some (.cells #[d] 22 (0, 0)) := only_heap h.cell hw.only (by simp; exact h.ap)
  have hO : Only [p] W' (W'.setCell ⟨p, 0, none⟩ u) := Only.setCell W' (by simp) u
  have hn : ∀ g, u.ownBlock = some g → g ≠ p := fun g e e2 => by
    subst e2
    exact box_apart hw.own hp (by decide) e.symm
  refine ⟨⟨one_set hp u, own_only hw.own hO (fun g e => by simp; exact hn g e), Nat.le_trans h.le (Nat.le_trans hw.only.size hO.size)⟩, (hw.only.mono (fun k hk => by simp at hk ⊢; exact .inr hk)).trans (hO.mono (by simp)), fun g hg => ?_⟩
  simp only [List.mem_cons, Option.mem_toList] at hg ⊢
  rcases hg with rfl | hg
  · exact .inl (.inl rfl)
  · rcases hw.lies g hg with h1 | h1
    · exact .inl (.inr h1)
    · exact .inr h1

/-- What the second closure has. -/
structure I2 (B : Nat) (SA SB : List Spot) (first : Bool) (p5 p7 p8 m : Nat) (i : Nat) (BL : List Nat) (W : World) : Prop where
  ex : ∃ d, BL = p8 :: d.ownBlock.toList ∧ Dc B W p8 d (tfO first (SA.take i) (SB.take i))
  c5 : W.heap[p5]? = some (.cells #[.bool first] 4 (0, 0))
  c7 : W.heap[p7]? = some (.cells #[.map (some m)] 78 (0, 0))
  mp : MpS W m SB
section
variable {B : Nat} {SA SB : List Spot} {first : Bool} {p5 p7 p8 m i : Nat} {BL : List Nat} {W W' : World}
theorem I2.alloc (h : I2 B SA SB first p5 p7 p8 m i BL W) (x : Obj) : I2 B SA SB first p5 p7 p8 m i BL (W.alloc x) := by
  obtain ⟨⟨d, e, hd⟩, h5, h7, hm⟩ := h
  have hO := Only.alloc [] W x
  exact ⟨⟨d, e, hd.only hO (by simp) (by simp)⟩, only_heap h5 hO (by simp), only_heap h7 hO (by simp), hm.only hO (by simp)⟩
theorem I2.lt (h : I2 B SA SB first p5 p7 p8 m i BL W) : ∀ g ∈ BL, g < W.heap.size := by
  obtain ⟨⟨d, e, hd⟩, h5, h7, hm⟩ := h
  subst e
  intro g hg
  simp only [List.mem_cons, Option.mem_toList] at hg
  rcases hg with rfl | hg
  · exact heap_lt hd.cell
  · exact (hd.own.lt g hg).2
/-- What it reads is none of what it changes. -/
theorem I2.apart (h : I2 B SA SB first p5 p7 p8 m i BL W) : p5 ∉ BL ∧ p7 ∉ BL ∧ m ∉ BL := by
  obtain ⟨⟨d, e, hd⟩, h5, h7, hm⟩ := h
  subst e
  obtain ⟨es, c, hmm, _⟩ := hm
  have hc := hd.cell
  refine ⟨?_, ?_, ?_⟩
  · simp only [List.mem_cons, Option.mem_toList, not_or]
    refine ⟨fun e => ?_, fun e => box_apart hd.own h5 (by decide) e.symm⟩
    subst e; rw [hc] at h5; simp at h5
  · simp only [List.mem_cons, Option.mem_toList, not_or]
    refine ⟨fun e => ?_, fun e => box_apart hd.own h7 (by decide) e.symm⟩
    subst e; rw [hc] at h7; simp at h7
  · simp only [List.mem_cons, Option.mem_toList, not_or]
    refine ⟨fun e => ?_, fun e => ?_⟩
    · subst e; rw [hc] at hmm; simp at hmm
    · rcases hd.own.2 with ⟨rfl, _⟩ | ⟨g, cap, cur, rfl, _, hg, _⟩
      · cases e
      · simp [Value.ownBlock] at e
        subst e
        rw [hg] at hmm; simp at hmm
end

/-- Behind the two operations: they lie in two new boxes. -/
def Cu (W wx : World) (a8 a9 : Value) (x y : Spot) : Prop :=
  ∃ b8 b9, a8 = .pointer (some ⟨b8, 0, none⟩) ∧ a9 = .pointer (some ⟨b9, 0, none⟩) ∧ wx.heap[b8]? = some (.cells #[.int .i64 2, .int .i64 0, .string x.put] 50 (0, 0)) ∧ wx.heap[b9]? = some (.cells #[.int .i64 1, .int .i64 (cpl y.put), .string ⟨#[]⟩] 50 (0, 0)) ∧ W.heap.size ≤ b8 ∧ W.heap.size ≤ b9 ∧ Only [] W wx

/-- On the way through the region that makes them: new boxes at l. -/
structure Tr (W X : World) (l : List Nat) : Prop where
  only : Only [] W X
  box : ∀ b ∈ l, W.heap.size ≤ b ∧ X.heap[b]? = some (.cells #[.int .i64 0, .int .i64 0, .string ⟨#[]⟩] 50 (0, 0))
  nd : l.Nodup
theorem Tr.start (W : World) : Tr W W.drew [] := ⟨Only.drew _ _, by simp, by simp⟩
theorem Tr.call {W X X' : World} {l : List Nat} (h : Tr W X l) (hb : Below X.heap.size X X') : Tr W X' l := by
  have hO : Only [] X X' := Only.of_below hb
  exact ⟨h.only.trans hO, fun b hm => ⟨(h.box b hm).1, only_heap (h.box b hm).2 hO (by simp)⟩, h.nd⟩
theorem Tr.alloc {W X : World} {l : List Nat} (h : Tr W X l) : Tr W (X.alloc (.cells #[.int .i64 0, .int .i64 0, .string ⟨#[]⟩] 50)) (X.heap.size :: l) := by
  have hO : Only [] X (X.alloc (.cells #[.int .i64 0, .int .i64 0, .string ⟨#[]⟩] 50)) := Only.alloc _ _ _
  refine ⟨h.only.trans hO, fun b hm => ?_, ?_⟩
  · rcases List.mem_cons.1 hm with rfl | hm
    · exact ⟨h.only.size, heap_alloc_new _ _⟩
    · exact ⟨(h.box b hm).1, only_heap (h.box b hm).2 hO (by simp)⟩
  · refine List.nodup_cons.2 ⟨fun hm => ?_, h.nd⟩
    have := heap_lt (h.box _ hm).2
    omega
theorem Tr.alloc2 {W X : World} {l : List Nat} (h : Tr W X l) : Tr W ((X.alloc (.cells #[.int .i64 0, .int .i64 0, .string ⟨#[]⟩] 50)).alloc (.cells #[.int .i64 0, .int .i64 0, .string ⟨#[]⟩] 50)) ((X.heap.size + 1) :: X.heap.size :: l) := by
  have := h.alloc.alloc
  rw [World.size_alloc] at this
  exact this
theorem Tr.alloc0 {W : World} {a b : Obj} (h : Tr ((W.alloc a).alloc b) ((W.alloc a).alloc b).drew []) : Tr ((W.alloc a).alloc b) (((W.alloc a).alloc b).drew.alloc (.cells #[.int .i64 0, .int .i64 0, .string ⟨#[]⟩] 50)) [W.heap.size + 1 + 1] := by
  have := h.alloc
  have e : ((W.alloc a).alloc b).drew.heap.size = W.heap.size + 1 + 1 := by show ((W.alloc a).alloc b).heap.size = _; rw [World.size_alloc, World.size_alloc]
  rw [e] at this
  exact this
theorem Tr.alloc00 {W : World} {a b : Obj} (h : Tr ((W.alloc a).alloc b) ((W.alloc a).alloc b).drew []) : Tr ((W.alloc a).alloc b) ((((W.alloc a).alloc b).drew.alloc (.cells #[.int .i64 0, .int .i64 0, .string ⟨#[]⟩] 50)).alloc (.cells #[.int .i64 0, .int .i64 0, .string ⟨#[]⟩] 50)) [W.heap.size + 1 + 1 + 1, W.heap.size + 1 + 1] := by
  have := h.alloc0.alloc
  have e : (((W.alloc a).alloc b).drew.alloc (.cells #[.int .i64 0, .int .i64 0, .string ⟨#[]⟩] 50)).heap.size = W.heap.size + 1 + 1 + 1 := by rw [World.size_alloc]; show ((W.alloc a).alloc b).heap.size + 1 = _; rw [World.size_alloc, World.size_alloc]
  rw [e] at this
  exact this
theorem Tr.s {W X : World} {l : List Nat} {x y : Spot} (h : Tr ((W.alloc (.cells #[.string x.put, .int .i64 x.k] 81)).alloc (.cells #[.string y.put, .int .i64 y.k] 81)) X l) :
    X.cell? ⟨W.heap.size, 0, none⟩ = some (.string x.put) ∧ X.cell? ⟨W.heap.size + 1, 0, none⟩ = some (.string y.put) := by
  have h0 := heap_alloc_new (W.alloc (.cells #[.string x.put, .int .i64 x.k] 81)) (.cells #[.string y.put, .int .i64 y.k] 81)
  rw [World.size_alloc] at h0
  have h2 : ((W.alloc (.cells #[.string x.put, .int .i64 x.k] 81)).alloc (.cells #[.string y.put, .int .i64 y.k] 81)).heap[W.heap.size]? = some (.cells #[.string x.put, .int .i64 x.k] 81) := (Below.heap_alloc _ _ _ (by simp)).trans (heap_alloc_new W _)
  exact ⟨cell_of_row _ _ 0 _ _ (0, 0) (only_heap h2 h.only (by simp)), cell_of_row _ _ 0 _ _ (0, 0) (only_heap h0 h.only (by simp))⟩
theorem Tr.sz {W X : World} {l : List Nat} {x y : Obj} (h : Tr ((W.alloc x).alloc y) X l) : W.heap.size + 2 ≤ X.heap.size := by
  have := h.only.size
  simp at this
  omega
theorem cell_lt {V : World} {p : Addr} {v : Value} (h : V.cell? p = some v) : p.block < V.heap.size := by
  unfold World.cell? at h
  split at h
  · rename_i hh; exact heap_lt hh
  · cases h
theorem s_alloc {V : World} {p q : Addr} {u v : Value} (h : V.cell? p = some u ∧ V.cell? q = some v) (Z : Obj) : (V.alloc Z).cell? p = some u ∧ (V.alloc Z).cell? q = some v := by
  have e : ∀ k, k < V.heap.size → (V.alloc Z).heap[k]? = V.heap[k]? := fun k hk => Below.heap_alloc V Z k hk
  refine ⟨?_, ?_⟩
  · rw [← h.1]; unfold World.cell?; rw [e _ (cell_lt h.1)]
  · rw [← h.2]; unfold World.cell?; rw [e _ (cell_lt h.2)]
theorem s_drew {V : World} {p q : Addr} {u v : Value} (h : V.cell? p = some u ∧ V.cell? q = some v) : V.drew.cell? p = some u ∧ V.drew.cell? q = some v := h
theorem s_set {V : World} {p q : Addr} {u v : Value} (h : V.cell? p = some u ∧ V.cell? q = some v) {b o : Nat} {z : Value} (h1 : p.block ≠ b) (h2 : q.block ≠ b) : (V.setCell ⟨b, o, none⟩ z).cell? p = some u ∧ (V.setCell ⟨b, o, none⟩ z).cell? q = some v := by
  have e : ∀ k, k ≠ b → (V.setCell ⟨b, o, none⟩ z).heap[k]? = V.heap[k]? := fun k hk => Below.heap_setCell V ⟨b, o, none⟩ z k (fun e => hk e)
  refine ⟨?_, ?_⟩
  · rw [← h.1]; unfold World.cell?; rw [e _ h1]
  · rw [← h.2]; unfold World.cell?; rw [e _ h2]

theorem Tr.at {W X : World} {l : List Nat} (h : Tr W X l) {b : Nat} (hb : b ∈ l) : X.heap[b]? = some (.cells zop.cs 50 (0, 0)) := (h.box b hb).2
theorem two_ne {W X : World} {b c : Nat} (h : Tr W X [b, c]) : b ≠ c := fun e => by have := h.nd; simp [e] at this
/-- What a store of an operation into such a box asks. -/
def StF (X : World) (b : Nat) : Prop :=
    X.frozen? ⟨b, 0, none⟩ = false ∧ X.cell? ⟨b, 0, none⟩ = some (.int .i64 0) ∧ (∀ k, (X.setCell ⟨b, 0, none⟩ k).frozen? ⟨b, 1, none⟩ = false) ∧ (∀ k, (X.setCell ⟨b, 0, none⟩ k).cell? ⟨b, 1, none⟩ = some (.int .i64 0)) ∧
    (∀ k n, ((X.setCell ⟨b, 0, none⟩ k).setCell ⟨b, 1, none⟩ n).frozen? ⟨b, 2, none⟩ = false) ∧ (∀ k n, ((X.setCell ⟨b, 0, none⟩ k).setCell ⟨b, 1, none⟩ n).cell? ⟨b, 2, none⟩ = some (.string ⟨#[]⟩))
theorem stF_of {X : World} {b : Nat} (h : X.heap[b]? = some (.cells zop.cs 50 (0, 0))) : StF X b := stf h
theorem stF_all {X : World} {b : Nat} (h : X.heap[b]? = some (.cells zop.cs 50 (0, 0))) (Z : Obj) : StF (X.alloc Z) b := stF_of (only_heap h (Only.alloc [] X Z) (by simp))
theorem stF_other {X : World} {b c : Nat} (h : X.heap[c]? = some (.cells zop.cs 50 (0, 0))) (hn : c ≠ b) (x y z : Value) : StF (((X.setCell ⟨b, 0, none⟩ x).setCell ⟨b, 1, none⟩ y).setCell ⟨b, 2, none⟩ z) c :=
  stF_of (only_heap h (((Only.setCell (S := [b]) X (by simp) x).trans (Only.setCell _ (by simp) y)).trans (Only.setCell _ (by simp) z)) (by simp; exact hn))

theorem Tr.fresh {W X : World} {l : List Nat} (h : Tr W X l) {b : Nat} (hb : b ∈ l) (x y z : Value) : StF ((((X.alloc (.cells #[.int .i64 0, .int .i64 0, .string ⟨#[]⟩] 50)).setCell ⟨b, 0, none⟩ x).setCell ⟨b, 1, none⟩ y).setCell ⟨b, 2, none⟩ z) X.heap.size :=
  stF_other (heap_alloc_new X _) (by have := heap_lt (h.at hb); omega) x y z

def mC (x : Spot) : Array Value := #[.int .i64 2, .int .i64 0, .string x.put]
def tC (y : Spot) : Array Value := #[.int .i64 1, .int .i64 (cpl y.put), .string ⟨#[]⟩]
theorem set3' {X : World} {b : Nat} {k n t : Value} (h : X.heap[b]? = some (.cells zop.cs 50 (0, 0))) : (((X.setCell ⟨b, 0, none⟩ k).setCell ⟨b, 1, none⟩ n).setCell ⟨b, 2, none⟩ t).heap[b]? = some (.cells #[k, n, t] 50 (0, 0)) := by
  rw [set3 h]
  exact setRow_heap _ _ _ _ _ _ h
theorem only3 (X : World) (b : Nat) (k n t : Value) : Only [b] X (((X.setCell ⟨b, 0, none⟩ k).setCell ⟨b, 1, none⟩ n).setCell ⟨b, 2, none⟩ t) :=
  ((Only.setCell (S := [b]) X (by simp) k).trans (Only.setCell _ (by simp) n)).trans (Only.setCell _ (by simp) t)
theorem only_new {W X Y : World} {b : Nat} (h : Only [] W X) (k : Only [b] X Y) (hb : W.heap.size ≤ b) : Only [] W Y := h.new k (fun i hi => .inr (by simp at hi; omega))
/-- Both boxes were there. -/
theorem cuD {W X : World} {l : List Nat} {x y : Spot} {b8 b9 : Nat} (h : Tr W X l) (h8 : b8 ∈ l) (h9 : b9 ∈ l) (hn : b9 ≠ b8) :
    Cu W ((((((X.setCell ⟨b8, 0, none⟩ (.int .i64 2)).setCell ⟨b8, 1, none⟩ (.int .i64 0)).setCell ⟨b8, 2, none⟩ (.string x.put)).setCell ⟨b9, 0, none⟩ (.int .i64 1)).setCell ⟨b9, 1, none⟩ (.int .i64 (cpl y.put))).setCell ⟨b9, 2, none⟩ (.string ⟨#[]⟩)) (.pointer (some ⟨b8, 0, none⟩)) (.pointer (some ⟨b9, 0, none⟩)) x y := by
  have e8 := set3' (k := .int .i64 2) (n := .int .i64 0) (t := .string x.put) (h.at h8)
  have o8 := only3 X b8 (.int .i64 2) (.int .i64 0) (.string x.put)
  have e9 := only_heap (h.at h9) o8 (by simp; exact hn)
  have g9 := set3' (k := .int .i64 1) (n := .int .i64 (cpl y.put)) (t := .string ⟨#[]⟩) e9
  have o9 := only3 (((X.setCell ⟨b8, 0, none⟩ (.int .i64 2)).setCell ⟨b8, 1, none⟩ (.int .i64 0)).setCell ⟨b8, 2, none⟩ (.string x.put)) b9 (.int .i64 1) (.int .i64 (cpl y.put)) (.string ⟨#[]⟩)
  exact ⟨b8, b9, rfl, rfl, only_heap e8 o9 (by simp; exact fun e => hn e.symm), g9, (h.box _ h8).1, (h.box _ h9).1, only_new (only_new h.only o8 (h.box _ h8).1) o9 (h.box _ h9).1⟩
/-- The first is made with what it holds. -/
theorem cuC {W X : World} {l : List Nat} {x y : Spot} {b9 : Nat} (h : Tr W X l) (h9 : b9 ∈ l) :
    Cu W ((((X.alloc (.cells #[.int .i64 2, .int .i64 0, .string x.put] 50)).setCell ⟨b9, 0, none⟩ (.int .i64 1)).setCell ⟨b9, 1, none⟩ (.int .i64 (cpl y.put))).setCell ⟨b9, 2, none⟩ (.string ⟨#[]⟩)) (.pointer (some ⟨X.heap.size, 0, none⟩)) (.pointer (some ⟨b9, 0, none⟩)) x y := by
  have hl := heap_lt (h.at h9)
  have o8 : Only [] X (X.alloc (.cells #[.int .i64 2, .int .i64 0, .string x.put] 50)) := Only.alloc _ _ _
  have g9 := set3' (k := .int .i64 1) (n := .int .i64 (cpl y.put)) (t := .string ⟨#[]⟩) (only_heap (h.at h9) o8 (by simp))
  have o9 := only3 (X.alloc (.cells #[.int .i64 2, .int .i64 0, .string x.put] 50)) b9 (.int .i64 1) (.int .i64 (cpl y.put)) (.string ⟨#[]⟩)
  exact ⟨_, b9, rfl, rfl, only_heap (heap_alloc_new X _) o9 (by simp; omega), g9, h.only.size, (h.box _ h9).1, only_new (h.only.trans o8) o9 (h.box _ h9).1⟩
/-- Both are made with what they hold. -/
theorem cuA {W X : World} {l : List Nat} {x y : Spot} (h : Tr W X l) :
    Cu W ((X.alloc (.cells #[.int .i64 2, .int .i64 0, .string x.put] 50)).alloc (.cells #[.int .i64 1, .int .i64 (cpl y.put), .string ⟨#[]⟩] 50)) (.pointer (some ⟨X.heap.size, 0, none⟩)) (.pointer (some ⟨X.heap.size + 1, 0, none⟩)) x y := by
  have hs := h.only.size
  have e9 := heap_alloc_new (X.alloc (.cells #[.int .i64 2, .int .i64 0, .string x.put] 50)) (.cells #[.int .i64 1, .int .i64 (cpl y.put), .string ⟨#[]⟩] 50)
  rw [World.size_alloc] at e9
  exact ⟨_, _, rfl, rfl, (Below.heap_alloc _ _ _ (by simp)).trans (heap_alloc_new X _), e9, hs, by omega, (h.only.trans (Only.alloc _ _ _)).trans (Only.alloc _ _ _)⟩
theorem cuA2 {W X : World} {l : List Nat} {x y : Spot} (h : Tr W X l) :
    Cu W ((X.alloc (.cells #[.int .i64 1, .int .i64 (cpl y.put), .string ⟨#[]⟩] 50)).alloc (.cells #[.int .i64 2, .int .i64 0, .string x.put] 50)) (.pointer (some ⟨X.heap.size + 1, 0, none⟩)) (.pointer (some ⟨X.heap.size, 0, none⟩)) x y := by
  have hs := h.only.size
  have e9 := heap_alloc_new (X.alloc (.cells #[.int .i64 1, .int .i64 (cpl y.put), .string ⟨#[]⟩] 50)) (.cells #[.int .i64 2, .int .i64 0, .string x.put] 50)
  rw [World.size_alloc] at e9
  exact ⟨_, _, rfl, rfl, e9, (Below.heap_alloc _ _ _ (by simp)).trans (heap_alloc_new X _), by omega, hs, (h.only.trans (Only.alloc _ _ _)).trans (Only.alloc _ _ _)⟩

theorem many_newS (wr : World) (l : List Value) (e n : Nat) (hn : wr.heap.size = n) : ∀ j u, l[j]? = some u → (wr.alloc (.cells l.toArray e)).cell? ((⟨n, 0, none⟩ : Addr).add j) = some u := by
  subst hn
  exact many_new wr l e
def two (o p : OpD) : Obj := .cells #[.int .i64 o.k, .int .i64 o.n, .string o.t, .int .i64 p.k, .int .i64 p.n, .string p.t] 50
theorem rdd_two (X : World) (o p : OpD) : RdD (X.alloc (two o p)) (.slice (some ⟨X.heap.size, 0, none⟩) 2 2) [o, p] := by
  refine ⟨_, 2, rfl, ⟨by simp, by simp⟩, fun i q hi => ⟨X.heap.size, 0, rfl, by simp, ?_⟩⟩
  have h := heap_alloc_new X (two o p)
  have hc : ∀ j, (X.alloc (two o p)).cell? ⟨X.heap.size, j, none⟩ = #[Value.int .i64 o.k, .int .i64 o.n, .string o.t, .int .i64 p.k, .int .i64 p.n, .string p.t][j]? := fun j => by unfold World.cell?; rw [h]; simp only [two]; rfl
  match i, hi with
  | 0, hi => simp at hi; subst hi; exact ⟨hc 0, hc 1, hc 2⟩
  | 1, hi => simp at hi; subst hi; exact ⟨hc 3, hc 4, hc 5⟩
  | i + 2, hi => simp at hi
theorem Dc.after {B : Nat} {W W' : World} {p : Nat} {d u : Value} {D D' : List OpD} (h : Dc B W p d D) (hw : Ws B W W' d u D') : W'.cell? ⟨p, 0, none⟩ = some d ∧ W'.frozen? ⟨p, 0, none⟩ = false := by
  have hp : W'.heap[p]? = some (.cells #[d] 22 (0, 0)) := only_heap h.cell hw.only (by simp; exact h.ap)
  exact ⟨cell_of_row _ _ 0 _ _ (0, 0) hp, frz hp 0⟩
/-- What is behind the first store. -/
structure Aft (B : Nat) (W Y : World) (p8 : Nat) (d u : Value) (D : List OpD) (x y : Spot) : Prop where
  dc : Dc B Y p8 u D
  only : Only (p8 :: d.ownBlock.toList) W Y
  lies : ∀ g ∈ p8 :: u.ownBlock.toList, g ∈ p8 :: d.ownBlock.toList ∨ W.heap.size ≤ g
  bx : Y.heap[W.heap.size]? = some (.cells #[.string x.put, .int .i64 x.k] 81 (0, 0))
  bY : Y.heap[W.heap.size + 1]? = some (.cells #[.string y.put, .int .i64 y.k] 81 (0, 0))
theorem aft_of {B : Nat} {W wc w1 : World} {p8 : Nat} {d u : Value} {D D' : List OpD} {x y : Spot} {C : Obj} (hd : Dc B W p8 d D) (hO : Only [] W wc) (hs : W.heap.size + 2 ≤ wc.heap.size) (bx : wc.heap[W.heap.size]? = some (.cells #[.string x.put, .int .i64 x.k] 81 (0, 0))) (bY : wc.heap[W.heap.size + 1]? = some (.cells #[.string y.put, .int .i64 y.k] 81 (0, 0)))
    (hw : Ws B (wc.alloc C) w1 d u D') : (w1.cell? ⟨p8, 0, none⟩ = some d ∧ w1.frozen? ⟨p8, 0, none⟩ = false) ∧ Aft B W (w1.setCell ⟨p8, 0, none⟩ u) p8 d u D' x y := by
  have hO2 : Only [] W (wc.alloc C) := hO.trans (Only.alloc _ _ _)
  have hd2 := hd.only hO2 (by simp) (by simp)
  obtain ⟨h1, h2, h3⟩ := hd2.put hw
  have hp := heap_lt hd.cell
  have hn : ∀ b, W.heap.size ≤ b → b ∉ p8 :: d.ownBlock.toList := fun b hb hm => by
    simp only [List.mem_cons, Option.mem_toList] at hm
    rcases hm with rfl | hm
    · omega
    · have := (hd.own.lt _ hm).2; omega
  have hal : ∀ (b : Nat) (o : Obj), wc.heap[b]? = some o → (wc.alloc C).heap[b]? = some o := fun b o h => only_heap h (Only.alloc [] wc C) (by simp)
  refine ⟨hd2.after hw, h1, (hO2.mono (by simp)).trans h2, fun g hg => ?_, only_heap (hal _ _ bx) h2 (hn _ (Nat.le_refl _)), only_heap (hal _ _ bY) h2 (hn _ (by omega))⟩
  rcases h3 g hg with h | h
  · exact .inl h
  · exact .inr (by have : (wc.alloc C).heap.size = wc.heap.size + 1 := by simp
                   omega)
/-- What is behind the second one. -/
theorem aft_app {B : Nat} {W Y w3 : World} {p8 g cap : Nat} {d u : Value} {D : List OpD} {x y : Spot} {o : OpD} {C : Obj} (h : Aft B W Y p8 d u D x y)
    (ho : w3.ownsRow B 50 3 (.slice (some ⟨g, 0, none⟩) (D.length + 1) cap) (D.length + 1) (ocs D ++ [Value.int .i64 o.k, .int .i64 o.n, .string o.t])) (hg : (Y.alloc C).grownBy w3 u.ownBlock) (hl : u.ownBlock = some g ∨ g = Y.heap.size + 1) :
    (w3.cell? ⟨p8, 0, none⟩ = some u ∧ w3.frozen? ⟨p8, 0, none⟩ = false) ∧ Dc B (w3.setCell ⟨p8, 0, none⟩ (.slice (some ⟨g, 0, none⟩) (D.length + 1) cap)) p8 (.slice (some ⟨g, 0, none⟩) (D.length + 1) cap) (D ++ [o]) ∧ Only (p8 :: d.ownBlock.toList) W (w3.setCell ⟨p8, 0, none⟩ (.slice (some ⟨g, 0, none⟩) (D.length + 1) cap)) ∧
      ∀ k ∈ p8 :: (Value.slice (some ⟨g, 0, none⟩) (D.length + 1) cap).ownBlock.toList, k ∈ p8 :: d.ownBlock.toList ∨ W.heap.size ≤ k := by
  have hW : Ws B Y Y u u D := ⟨h.dc.own, Only.refl _ _, fun g e => .inl e⟩
  have hZ := hW.app (o := o) ho hg hl
  obtain ⟨h1, h2, h3⟩ := h.dc.put hZ
  refine ⟨h.dc.after hZ, h1, h.only.new h2 h.lies, fun k hk => ?_⟩
  rcases h3 k hk with h4 | h4
  · exact h.lies k h4
  · have := h.only.size; exact .inr (by omega)
theorem i2_next {B : Nat} {SA SB : List Spot} {first : Bool} {p5 p7 p8 m i : Nat} {BL : List Nat} {W W' : World} {u : Value} (h : I2 B SA SB first p5 p7 p8 m i BL W) (hd : Dc B W' p8 u (tfO first (SA.take (i + 1)) (SB.take (i + 1)))) (ho : Only BL W W') : I2 B SA SB first p5 p7 p8 m (i + 1) (p8 :: u.ownBlock.toList) W' := by
  obtain ⟨a5, a7, am⟩ := h.apart
  exact ⟨⟨u, rfl, hd⟩, only_heap h.c5 ho a5, only_heap h.c7 ho a7, h.mp.only ho am⟩

set_option maxRecDepth 20000 in
set_option maxHeartbeats 6000000 in
theorem see2_any {B : Nat} {SA SB : List Spot} {first : Bool} {p5 p7 p8 m i : Nat} {BL : List Nat} {W : World} (h : I2 B SA SB first p5 p7 p8 m i BL W) {x y : Spot} (hx : SA[i]? = some x) (hy : SB[i]? = some y) (oy : y.Ok) (hc : 0 ≤ cpl y.put) (hs : y.put.size ≤ 1048576) (hl : SB.length ≤ 1500) (hD : (tfO first (SA.take i) (SB.take i)).length ≤ 90000) :
    Calls Try.prog 49 #[.int .i64 (i : Int), .agg #[.string x.put, .int .i64 x.k], .pointer (some ⟨p7, 0, none⟩), .pointer (some ⟨p5, 0, none⟩), .pointer (some ⟨p8, 0, none⟩)] W fun e w' => e = .returned (.tuple #[]) ∧ ∃ BL', I2 B SA SB first p5 p7 p8 m (i + 1) BL' w' ∧ Only BL W w' ∧ ∀ g ∈ BL', g ∈ BL ∨ W.heap.size ≤ g := by
  have hA := h.alloc (.cells #[.string x.put, .int .i64 x.k] 81)
  have hA2 := hA.alloc (.cells #[.string y.put, .int .i64 y.k] 81)
  have hlk := hA.mp.lookup hy oy (by omega)
  have hc7 : (W.alloc (.cells #[.string x.put, .int .i64 x.k] 81)).cell? ⟨p7, 0, none⟩ = some (.map (some m)) := cell_of_row _ _ 0 _ _ (0, 0) hA.c7
  have hI := otIns_any x.put
  have hR := fun w => runes_any y.put w hs hc
  have hK := otKeep_any (cpl y.put)
  go_enter Try.func49, Try.ntmps49
  go_upto_region 2 with fail
  go_cut [8, 9] (fun a8 a9 wx => Cu ((W.alloc (.cells #[.string x.put, .int .i64 x.k] 81)).alloc (.cells #[.string y.put, .int .i64 y.k] 81)) wx a8 a9 x y)
  case first =>
    have hT := Tr.start ((W.alloc (.cells #[.string x.put, .int .i64 x.k] 81)).alloc (.cells #[.string y.put, .int .i64 y.k] 81))
    have hS0 := hT.s
    have hS1 : ((W.alloc (.cells #[.string x.put, .int .i64 x.k] 81)).alloc (.cells #[.string y.put, .int .i64 y.k] 81)).cell? ⟨W.heap.size, 0, none⟩ = some (.string x.put) ∧ ((W.alloc (.cells #[.string x.put, .int .i64 x.k] 81)).alloc (.cells #[.string y.put, .int .i64 y.k] 81)).cell? ⟨W.heap.size + 1, 0, none⟩ = some (.string y.put) := hS0
    clear h hA hA2 hlk hc7
    go_region_held3 (fun V => V.cell? ⟨W.heap.size, 0, none⟩ = some (.string x.put) ∧ V.cell? ⟨W.heap.size + 1, 0, none⟩ = some (.string y.put))
      (repeat (first | with_reducible assumption | with_reducible exact hT.s | with_reducible refine s_alloc ?_ _ | with_reducible refine s_drew ?_ | (with_reducible refine s_set ?_ ?_ ?_; rotate_left; (simp only; omega); (simp only; omega))))
      (first
      | (go_at_call 50; refine (hI _).mono ?_; rintro e w1 ⟨rfl, hb1⟩; (first | replace hT := hT.call hb1 | replace hT := hT.alloc0.call hb1 | replace hT := hT.alloc00.call hb1); have z1 := hT.sz)
      | (go_at_call 52; refine (hR _).mono ?_; rintro e w2 ⟨rfl, hb2⟩; (first | replace hT := hT.call hb2 | replace hT := hT.alloc.call hb2 | replace hT := hT.alloc2.call hb2); have z2 := hT.sz)
      | (go_at_call 51; refine (hK _).mono ?_; rintro e w3 ⟨rfl, hb3⟩; (first | replace hT := hT.call hb3 | replace hT := hT.alloc.call hb3 | replace hT := hT.alloc2.call hb3); have z3 := hT.sz; (first | (have g1 := stF_of (hT.at (List.mem_cons_self ..)); have g2 := stF_of (hT.at (List.mem_cons_of_mem _ (List.mem_cons_self ..))); have g3 := stF_other (hT.at (List.mem_cons_self ..)) (two_ne hT); have g4 := stF_other (hT.at (List.mem_cons_of_mem _ (List.mem_cons_self ..))) (two_ne hT).symm; unfold StF at g1 g2 g3 g4) | (have g1 := stF_of (hT.at (List.mem_cons_self ..)); have g2 := stF_all (hT.at (List.mem_cons_self ..)); have g3 := hT.fresh (List.mem_cons_self ..); unfold StF at g1 g2 g3) | skip)))
    all_goals
      go_wp2_with fail
      go_meet
    all_goals first
      | with_reducible exact cuA hT
      | with_reducible exact cuA2 hT
      | with_reducible exact cuC hT (List.mem_cons_self ..)
      | with_reducible exact cuD hT (List.mem_cons_self ..) (List.mem_cons_of_mem _ (List.mem_cons_self ..)) (two_ne hT).symm
      | with_reducible exact cuD hT (List.mem_cons_of_mem _ (List.mem_cons_self ..)) (List.mem_cons_self ..) (two_ne hT)
      | with_reducible exact cuD hT.alloc (List.mem_cons_of_mem _ (List.mem_cons_self ..)) (List.mem_cons_self ..) (two_ne hT.alloc)
  case rest =>
    obtain ⟨b8, b9, rfl, rfl, e8, e9, l8, l9, hO⟩ := hcut
    clear hI hR hK hlk hc7 hA2 hA
    obtain ⟨⟨d, hBL, hd⟩, h5, _, _⟩ := id h
    subst hBL
    have hO1 : Only [] W ((W.alloc (.cells #[.string x.put, .int .i64 x.k] 81)).alloc (.cells #[.string y.put, .int .i64 y.k] 81)) := (Only.alloc _ _ _).trans (Only.alloc _ _ _)
    have hOW : Only [] W wc := hO1.trans hO
    have hsz : W.heap.size + 2 ≤ wc.heap.size := by have := hO.size; simp at this; omega
    have f0 := heap_alloc_new (W.alloc (.cells #[.string x.put, .int .i64 x.k] 81)) (.cells #[.string y.put, .int .i64 y.k] 81)
    rw [World.size_alloc] at f0
    have bY := only_heap f0 hO (by simp)
    have bx := only_heap ((Below.heap_alloc (W.alloc (.cells #[.string x.put, .int .i64 x.k] 81)) (.cells #[.string y.put, .int .i64 y.k] 81) _ (by simp)).trans (heap_alloc_new W (.cells #[.string x.put, .int .i64 x.k] 81))) hO (by simp)
    have hdc := hd.only hOW (by simp) (by simp)
    have q5 : wc.cell? ⟨p5, 0, none⟩ = some (.bool first) := cell_of_row _ _ 0 _ _ (0, 0) (only_heap h5 hOW (by simp))
    have q8 : wc.cell? ⟨p8, 0, none⟩ = some d := cell_of_row _ _ 0 _ _ (0, 0) hdc.cell
    have m0 : wc.cell? ⟨b8, 0, none⟩ = some (.int .i64 2) := cell_of_row _ _ 0 _ _ (0, 0) e8
    have m1 : wc.cell? ⟨b8, 1, none⟩ = some (.int .i64 0) := cell_of_row _ _ 1 _ _ (0, 0) e8
    have m2 : wc.cell? ⟨b8, 2, none⟩ = some (.string x.put) := cell_of_row _ _ 2 _ _ (0, 0) e8
    have t0 : wc.cell? ⟨b9, 0, none⟩ = some (.int .i64 1) := cell_of_row _ _ 0 _ _ (0, 0) e9
    have t1 : wc.cell? ⟨b9, 1, none⟩ = some (.int .i64 (cpl y.put)) := cell_of_row _ _ 1 _ _ (0, 0) e9
    have t2 : wc.cell? ⟨b9, 2, none⟩ = some (.string ⟨#[]⟩) := cell_of_row _ _ 2 _ _ (0, 0) e9
    have HT : Hid (tfO first (SA.take (i + 1)) (SB.take (i + 1)) = tfO first (SA.take i) (SB.take i) ++ outO first x y) := by
      show _ = _
      rw [List.take_add_one, List.take_add_one, hx, hy]
      have h1 := (List.getElem?_eq_some_iff.1 hx).1
      have h2 := (List.getElem?_eq_some_iff.1 hy).1
      exact tfO_snoc (by rw [List.length_take, List.length_take]; omega)
    have hN := fun (W' : World) (u : Value) (hd : Dc B W' p8 u (tfO first (SA.take (i + 1)) (SB.take (i + 1)))) ho => i2_next (u := u) (W' := W') h hd ho
    rw [HT.out] at hN
    have HM : Hid (∀ M : List OpD, M = (if first then [mineO x, thrsO y] else [thrsO y, mineO x]) → outO first x y = M.filter OpD.does ++ (if y.k = 1 then [⟨x.k, 1, ⟨#[]⟩⟩] else [])) := fun M hM => by rw [hM]; rfl
    have hWS := fun (o p : OpD) => withSome_any B d (.slice (some ⟨wc.heap.size, 0, none⟩) 2 2) (tfO first (SA.take i) (SB.take i)) [o, p] (wc.alloc (two o p)) (by have := hdc.le; simp; omega) (hdc.own.alloc _) (rdd_two wc o p) (fun g e => by
        have e' : wc.heap.size = g := by simpa [Value.ownBlock] using e
        intro e2
        have := (hdc.own.lt g e2).2
        omega) (by omega) (by simp)
    have hAf := fun (o p : OpD) (w1 : World) (u : Value) (hw : Ws B (wc.alloc (two o p)) w1 d u (tfO first (SA.take i) (SB.take i) ++ [o, p].filter OpD.does)) => aft_of (x := x) (y := y) hd hOW hsz bx bY hw
    have hlen : ∀ o p : OpD, (tfO first (SA.take i) (SB.take i) ++ [o, p].filter OpD.does).length ≤ 90002 := fun o p => by
      rw [List.length_append]
      have := List.length_filter_le OpD.does [o, p]
      simp at this ⊢
      omega
    generalize tfO first (SA.take i) (SB.take i) = D at *
    obtain ⟨i0, hin, hz0, hz1, hz2⟩ := info_parts Try.infoOp
    clear h hd hx hy hD hl hs hc oy h5 HT hO hO1 e8 e9 f0 bx bY hdc hOW
    cases first with
    | true =>
      have hC := hWS (mineO x) (thrsO y)
      have hF := hAf (mineO x) (thrsO y)
      have hll := hlen (mineO x) (thrsO y)
      have HO : Hid (outO true x y = [mineO x, thrsO y].filter OpD.does ++ (if y.k = 1 then [⟨x.k, 1, ⟨#[]⟩⟩] else [])) := HM.out [mineO x, thrsO y] rfl
      simp only [mineO, thrsO, two] at hC
      clear hWS hAf hlen HM
      go_wp2_with fail
      refine hC.mono ?_
      rintro e w1 ⟨u, rfl, hw⟩
      obtain ⟨⟨z0, z1⟩, hAft⟩ := hF w1 u hw
      clear hC hF hw q5 q8 m0 m1 m2 t0 t1 t2 hsz
      generalize HMM : D ++ [mineO x, thrsO y].filter OpD.does = D2 at *
      have HDD : Hid (D ++ outO true x y = D2 ++ (if y.k = 1 then [⟨x.k, 1, ⟨#[]⟩⟩] else [])) := by show _ = _; rw [HO.out, ← HMM, List.append_assoc]
      clear HO HMM
      have y1 : (w1.setCell ⟨p8, 0, none⟩ u).cell? ⟨W.heap.size + 1, 1, none⟩ = some (.int .i64 y.k) := cell_of_row _ _ 1 _ _ (0, 0) hAft.bY
      have x1 : (w1.setCell ⟨p8, 0, none⟩ u).cell? ⟨W.heap.size, 1, none⟩ = some (.int .i64 x.k) := cell_of_row _ _ 1 _ _ (0, 0) hAft.bx
      have u1 : (w1.setCell ⟨p8, 0, none⟩ u).cell? ⟨p8, 0, none⟩ = some u := cell_of_row _ _ 0 _ _ (0, 0) hAft.dc.cell
      obtain ⟨ao5, cp5, e5⟩ := own_form hAft.dc.own
      subst e5
      have hle := hAft.dc.le
      by_cases ky : y.k = 1
      · rw [ky] at y1
        rw [if_pos ky] at HDD
        clear ky
        go_wp2_with (at_builtin; refine wpList_append_lies _ rfl (.tmp 34) (.tmp 38) 22 rfl B 50 i0 (.agg #[.int .i64 0, .int .i64 0, .string ⟨#[]⟩]) 3 32 Try.underlying22 hin hz0 hz1 hz2 rfl (by decide) (.slice ao5 D2.length cp5) D2.length (ocs D2) rfl (hAft.dc.own.alloc _) ⟨_, 0, none⟩ 1 1 [.int .i64 x.k, .int .i64 1, .string ⟨#[]⟩] rfl rfl (many_newS _ _ _ _ (by simp [World.setCell])) (three_one _ _ _) (by decide) (by unfold maxLen; omega) (by omega) (by simp at hle ⊢; omega) _ rfl ?_; intro g9 c9 w9 ho9 hg9 hl9 _; obtain ⟨⟨z2, z3⟩, hD9, hO9, hL9⟩ := aft_app (o := ⟨x.k, 1, ⟨#[]⟩⟩) hAft ho9 hg9 (hl9.imp id (fun e => by rw [e]; simp)))
        go_end0
        rw [HDD.out] at hN
        exact ⟨rfl, _, hN _ _ hD9 hO9, hO9, hL9⟩
      · have ky' : (y.k == 1) = false := by simpa using ky
        rw [if_neg ky, List.append_nil] at HDD
        go_wp2_with fail
        go_end0
        rw [HDD.out] at hN
        exact ⟨rfl, _, hN _ _ hAft.dc hAft.only, hAft.only, hAft.lies⟩
    | false =>
      have hC := hWS (thrsO y) (mineO x)
      have hF := hAf (thrsO y) (mineO x)
      have hll := hlen (thrsO y) (mineO x)
      have HO : Hid (outO false x y = [thrsO y, mineO x].filter OpD.does ++ (if y.k = 1 then [⟨x.k, 1, ⟨#[]⟩⟩] else [])) := HM.out [thrsO y, mineO x] rfl
      simp only [mineO, thrsO, two] at hC
      clear hWS hAf hlen HM
      go_wp2_with fail
      refine hC.mono ?_
      rintro e w1 ⟨u, rfl, hw⟩
      obtain ⟨⟨z0, z1⟩, hAft⟩ := hF w1 u hw
      clear hC hF hw q5 q8 m0 m1 m2 t0 t1 t2 hsz
      generalize HMM : D ++ [thrsO y, mineO x].filter OpD.does = D2 at *
      have HDD : Hid (D ++ outO false x y = D2 ++ (if y.k = 1 then [⟨x.k, 1, ⟨#[]⟩⟩] else [])) := by show _ = _; rw [HO.out, ← HMM, List.append_assoc]
      clear HO HMM
      have y1 : (w1.setCell ⟨p8, 0, none⟩ u).cell? ⟨W.heap.size + 1, 1, none⟩ = some (.int .i64 y.k) := cell_of_row _ _ 1 _ _ (0, 0) hAft.bY
      have x1 : (w1.setCell ⟨p8, 0, none⟩ u).cell? ⟨W.heap.size, 1, none⟩ = some (.int .i64 x.k) := cell_of_row _ _ 1 _ _ (0, 0) hAft.bx
      have u1 : (w1.setCell ⟨p8, 0, none⟩ u).cell? ⟨p8, 0, none⟩ = some u := cell_of_row _ _ 0 _ _ (0, 0) hAft.dc.cell
      obtain ⟨ao5, cp5, e5⟩ := own_form hAft.dc.own
      subst e5
      have hle := hAft.dc.le
      by_cases ky : y.k = 1
      · rw [ky] at y1
        rw [if_pos ky] at HDD
        clear ky
        go_wp2_with (at_builtin; refine wpList_append_lies _ rfl (.tmp 34) (.tmp 38) 22 rfl B 50 i0 (.agg #[.int .i64 0, .int .i64 0, .string ⟨#[]⟩]) 3 32 Try.underlying22 hin hz0 hz1 hz2 rfl (by decide) (.slice ao5 D2.length cp5) D2.length (ocs D2) rfl (hAft.dc.own.alloc _) ⟨_, 0, none⟩ 1 1 [.int .i64 x.k, .int .i64 1, .string ⟨#[]⟩] rfl rfl (many_newS _ _ _ _ (by simp [World.setCell])) (three_one _ _ _) (by decide) (by unfold maxLen; omega) (by omega) (by simp at hle ⊢; omega) _ rfl ?_; intro g9 c9 w9 ho9 hg9 hl9 _; obtain ⟨⟨z2, z3⟩, hD9, hO9, hL9⟩ := aft_app (o := ⟨x.k, 1, ⟨#[]⟩⟩) hAft ho9 hg9 (hl9.imp id (fun e => by rw [e]; simp)))
        go_end0
        rw [HDD.out] at hN
        exact ⟨rfl, _, hN _ _ hD9 hO9, hO9, hL9⟩
      · have ky' : (y.k == 1) = false := by simpa using ky
        rw [if_neg ky, List.append_nil] at HDD
        go_wp2_with fail
        go_end0
        rw [HDD.out] at hN
        exact ⟨rfl, _, hN _ _ hAft.dc hAft.only, hAft.only, hAft.lies⟩
end Go.Proofs.Ytphbjbigjpfjfaa

/-
  What undoes a delta; the contract of inverted.
-/
namespace Go.Proofs.Ytphbjbigjpfjfaa
open Go.ChangeShapes Go.WideShapes Go.ChangeAt Go.RowKit Go.PlainAid

/-- Code points at a place, with room for as many. -/
def RdR (w : World) (v : Value) (zs : List Int) : Prop :=
  ∃ ao cp, v = .slice ao zs.length cp ∧ zs.length ≤ cp ∧ (0 < zs.length → ∃ b off, ao = some ⟨b, off, none⟩ ∧ b < w.heap.size ∧ ∀ i, i < zs.length → w.cell? ⟨b, off + i, none⟩ = some (.int .i32 (zs.getD i 0)))
theorem rdr_rest {w : World} (b o len cp n : Nat) (zs : List Int) (hl : len = zs.length) (hn : n ≤ len) (hc : len ≤ cp) (hb : b < w.heap.size) (hz : ∀ i, i < zs.length → w.cell? ⟨b, o + i, none⟩ = some (.int .i32 (zs.getD i 0))) :
    RdR w (.slice (some ⟨b, o + n, none⟩) (len - n) (cp - n)) (zs.drop n) := by
  refine ⟨_, _, by rw [List.length_drop, hl], by rw [List.length_drop]; omega, fun h => ?_⟩
  rw [List.length_drop] at h
  refine ⟨b, o + n, rfl, hb, fun i hi => ?_⟩
  rw [List.length_drop] at hi
  rw [Nat.add_assoc, hz (n + i) (by omega)]
  simp
theorem rdr_none (w : World) (ao : Option Addr) (cp : Nat) (zs : List Int) (h : zs.length = 0) : RdR w (.slice ao 0 cp) zs := ⟨ao, cp, by rw [h], by omega, fun q => by omega⟩

/-- What undoes steps of code points. -/
def invO : List Int → List St → List OpD
  | _, [] => []
  | zs, .keep n :: l => ⟨1, n, ⟨#[]⟩⟩ :: invO (zs.drop n) l
  | zs, .rem n :: l => ⟨2, 0, mk (enc (zs.take n))⟩ :: invO (zs.drop n) l
  | zs, .ins t :: l => ⟨3, cpl t, ⟨#[]⟩⟩ :: invO zs l
theorem invO_len : ∀ (l : List St) (zs : List Int), (invO zs l).length = l.length
  | [], _ => rfl
  | .keep n :: l, zs => by rw [invO, List.length_cons, invO_len l]; rfl
  | .rem n :: l, zs => by rw [invO, List.length_cons, invO_len l]; rfl
  | .ins t :: l, zs => by rw [invO, List.length_cons, invO_len l]; rfl

theorem mk_append (a b : List UInt8) : mk a ++ mk b = mk (a ++ b) := by
  apply ByteArray.ext
  simp [mk]
theorem runes_enc : ∀ (zs : List Int) (a : List UInt8), (∀ z ∈ zs, szI z ≠ 0) → zs.foldl (fun r n => r ++ Utf8.encode n) (mk a) = mk (a ++ enc zs)
  | [], a, _ => by simp [enc]
  | z :: zs, a, h => by
    rw [List.foldl_cons, enc_rune (h z (by simp)), mk_append, runes_enc zs _ (fun y hy => h y (by simp [hy])), List.append_assoc]
    rfl
theorem runesBytes_enc {zs : List Int} (h : ∀ z ∈ zs, szI z ≠ 0) : runesBytes zs = mk (enc zs) := by
  have := runes_enc zs [] h
  rw [List.nil_append] at this
  exact this

set_option maxRecDepth 20000 in
/-- string(points[:n]). -/
theorem conv_runes (W : World) (b o n cap : Nat) (zs : List Int) (hn : n ≤ zs.length) (hz : ∀ z ∈ zs, szI z ≠ 0) (hc : ∀ i, i < zs.length → W.cell? ⟨b, o + i, none⟩ = some (.int .i32 (zs.getD i 0))) :
    (convert 63 9 (.slice (some ⟨b, o, none⟩) n cap)).run Try.prog W = .ok (.string (mk (enc (zs.take n)))) W := by
  rw [run_convert_runes W 63 9 21 ⟨b, o, none⟩ n cap zs hn Try.underlying63 Try.underlying21 Try.underlying9 (fun j hj => by rw [addr_add]; exact hc j hj)]
  rw [runesBytes_enc (fun z hz' => hz z (List.mem_of_mem_take hz'))]

theorem many_newTD (wr : World) (X : Obj) (l : List Value) (e : Nat) : ∀ j u, l[j]? = some u → (((wr.alloc X).alloc (.cells l.toArray e)).drew).cell? ((⟨wr.heap.size + 1, 0, none⟩ : Addr).add j) = some u := many_newT wr X l e
/-- A new box keeps what it has while a row of the call's own grows. -/
theorem app_kept {wr W' : World} {B e z n : Nat} {d : Value} {L : List Value} {X : Obj} {C : Obj} (hown : wr.ownsRow B e z d n L) (hg : ((wr.alloc X).alloc C).grownBy W' d.ownBlock) : W'.heap[wr.heap.size]? = some X := by
  have h1 : ((wr.alloc X).alloc C).heap[wr.heap.size]? = some X := (Below.heap_alloc _ _ _ (by simp)).trans (heap_alloc_new wr X)
  have ho : Only d.ownBlock.toList ((wr.alloc X).alloc C) W' := Only.of_grown hg (fun k e => by simp [e])
  refine only_heap h1 ho (fun hm => ?_)
  have := (hown.lt _ (by simpa using hm)).2
  omega
theorem app_below {w wr W' : World} {e z n : Nat} {d : Value} {L : List Value} {X : Obj} {C : Obj} (hbl : Below w.heap.size w wr) (hown : wr.ownsRow w.heap.size e z d n L) (hg : ((wr.alloc X).alloc C).grownBy W' d.ownBlock) : Below w.heap.size w W' := by
  have ho : Only d.ownBlock.toList wr W' := ((Only.alloc _ _ _).trans (Only.alloc _ _ _)).trans (Only.of_grown hg (fun k e => by simp [e]))
  exact hbl.trans (ho.below hbl.size (fun k hk => (hown.lt k (by simpa using hk)).1))

theorem app_facts {w wr W' : World} {g cap : Nat} {d : Value} {D : List OpD} {k : Int} {n : Int} {t : ByteArray} {X1 X2 X3 : Value} {C : Obj} (hbl : Below w.heap.size w wr) (hown : wr.ownsRow w.heap.size 50 3 d D.length (ocs D))
    (ho : W'.ownsRow w.heap.size 50 3 (.slice (some ⟨g, 0, none⟩) (D.length + 1) cap) (D.length + 1) (ocs D ++ [Value.int .i64 k, .int .i64 n, .string t])) (hg : (((wr.alloc (.cells #[X1, X2, X3] 50)).alloc C).drew).grownBy W' d.ownBlock) :
    W'.ownsRow w.heap.size 50 3 (.slice (some ⟨g, 0, none⟩) (D.length + 1) cap) (D ++ [(⟨k, n, t⟩ : OpD)]).length (ocs (D ++ [(⟨k, n, t⟩ : OpD)])) ∧ Below w.heap.size w W' ∧ W'.cell? ⟨wr.heap.size, 1, none⟩ = some X2 := by
  have hg' : ((wr.alloc (.cells #[X1, X2, X3] 50)).alloc C).grownBy W' d.ownBlock := ⟨hg.os, hg.tape, hg.output, hg.size, hg.block⟩
  exact ⟨own_op (o := ⟨k, n, t⟩) ho rfl, app_below hbl hown hg', cell_of_row _ _ 1 _ _ (0, 0) (app_kept hown hg')⟩

theorem rem_call {w wr w1 : World} {d : Value} {D : List OpD} {X1 X2 X3 : Value} (hbl : Below w.heap.size w wr) (hown : wr.ownsRow w.heap.size 50 3 d D.length (ocs D)) (hb : Below ((wr.alloc (.cells #[X1, X2, X3] 50)).drew).heap.size ((wr.alloc (.cells #[X1, X2, X3] 50)).drew) w1) :
    w1.ownsRow w.heap.size 50 3 d D.length (ocs D) ∧ w1.cell? ⟨wr.heap.size, 1, none⟩ = some X2 ∧ (∀ Z, (w1.alloc Z).cell? ⟨wr.heap.size, 1, none⟩ = some X2) ∧ Below w.heap.size w w1 ∧ wr.heap.size < w1.heap.size := by
  have hO : Only [] wr w1 := ((Only.alloc [] wr _).trans (Only.drew [] _)).trans (Only.of_below hb)
  have hx : w1.heap[wr.heap.size]? = some (.cells #[X1, X2, X3] 50 (0, 0)) := (hb.block _ (by show _ < (wr.alloc _).heap.size; simp)).trans (heap_alloc_new wr _)
  exact ⟨own_only hown hO (by simp), cell_of_row _ _ 1 _ _ (0, 0) hx, fun Z => cell_of_row _ _ 1 _ _ (0, 0) (only_heap hx (Only.alloc [] w1 Z) (by simp)), hbl.trans (hO.below hbl.size (by simp)), heap_lt hx⟩
theorem rem_app {w wr w1 W' : World} {g cap : Nat} {d : Value} {D : List OpD} {k : Int} {n : Int} {t : ByteArray} {X2 : Value} {C : Obj} (hbl : Below w.heap.size w w1) (hown : w1.ownsRow w.heap.size 50 3 d D.length (ocs D)) (hwr : wr.ownsRow w.heap.size 50 3 d D.length (ocs D)) (hlt : wr.heap.size < w1.heap.size) (hx : w1.cell? ⟨wr.heap.size, 1, none⟩ = some X2)
    (ho : W'.ownsRow w.heap.size 50 3 (.slice (some ⟨g, 0, none⟩) (D.length + 1) cap) (D.length + 1) (ocs D ++ [Value.int .i64 k, .int .i64 n, .string t])) (hg : (w1.alloc C).grownBy W' d.ownBlock) :
    W'.ownsRow w.heap.size 50 3 (.slice (some ⟨g, 0, none⟩) (D.length + 1) cap) (D ++ [(⟨k, n, t⟩ : OpD)]).length (ocs (D ++ [(⟨k, n, t⟩ : OpD)])) ∧ Below w.heap.size w W' ∧ W'.cell? ⟨wr.heap.size, 1, none⟩ = some X2 := by
  have ho2 : Only d.ownBlock.toList w1 W' := (Only.alloc _ _ _).trans (Only.of_grown hg (fun k e => by simp [e]))
  refine ⟨own_op (o := ⟨k, n, t⟩) ho rfl, hbl.trans (ho2.below hbl.size (fun k hk => (hown.lt k (by simpa using hk)).1)), ?_⟩
  have e := ho2.block wr.heap.size hlt (fun hm => by have := (hwr.lt _ (by simpa using hm)).2; omega)
  rw [← hx]
  unfold World.cell?
  rw [e]

set_option maxRecDepth 20000 in
set_option maxHeartbeats 3000000 in
theorem inverted_any (v0 v : Value) (zs : List Int) (ds : List St) (w : World) (hz : RdR w v0 zs) (hr : RdD w v (ds.map St.op)) (hl : ds.length ≤ 3000) (ho : ∀ s ∈ ds, s.Ok ∧ s.c ≤ 1000) (hB : bsum ds = zs.length) (hB' : bsum ds ≤ 1000) (hzs : ∀ z ∈ zs, szI z ≠ 0) :
    Calls Try.prog 36 #[v0, v] w fun e w' => ∃ u, e = .returned u ∧ w'.ownsRow w.heap.size 50 3 u (invO zs ds).length (ocs (invO zs ds)) ∧ Below w.heap.size w w' := by
  obtain ⟨i0, hin, hz0, hz1, hz2⟩ := info_parts Try.infoOp
  obtain ⟨ao, cp, rfl, _, hc⟩ := hr
  rw [List.length_map]
  go_enter Try.func36, Try.ntmps36
  go_wp2
  go_loopw [0, 5, 10] (fun q d i wr => ∃ (k : Nat) (out : List OpD), k ≤ ds.length ∧ i = .int .i64 (k : Int) ∧ RdR w q (zs.drop (bsum (ds.take k))) ∧ wr.ownsRow w.heap.size 50 3 d out.length (ocs out) ∧ out.length = k ∧ Hid (out ++ invO (zs.drop (bsum (ds.take k))) (ds.drop k) = invO zs ds) ∧ Below w.heap.size w wr) (fun _ _ i _ => ds.length - (intOf i).toNat)
  case atStart => exact ⟨0, [], by omega, rfl, hz, World.ownsRow_nil _ _ _ _, rfl, rfl, Below.refl _ _⟩
  case round =>
    obtain ⟨k, out, hk, rfl, hq, hown, hlen, HE, hbl⟩ := hrel
    clear hz
    have hst := sum_take ds k
    have hsz := hbl.size
    by_cases hlt : k < ds.length
    · have hlt' : (k : Int) < (ds.length : Int) := by omega
      have hsk := ho ds[k] (List.getElem_mem hlt)
      have hbt := bsum_take ds k hlt
      have hst2 := sum_take ds (k + 1)
      have HD : Hid (ds.drop k = ds[k] :: ds.drop (k + 1)) := List.drop_eq_getElem_cons hlt
      obtain ⟨b, off, rfl, hbb, c0', c1', c2'⟩ := hc k (ds[k]).op (by simp [hlt])
      have c0 := (hbl.cell (p := ⟨b, off + k * 3, none⟩) hbb).trans c0'
      have c1 := (hbl.cell (p := ⟨b, off + k * 3 + 1, none⟩) hbb).trans c1'
      have c2 := (hbl.cell (p := ⟨b, off + k * 3 + 2, none⟩) hbb).trans c2'
      clear c0' c1' c2' hc ho
      have hol : out.length ≤ 3000 := by omega
      generalize ds[k] = s at hsk HD c0 c1 c2 hbt
      have HE2 : Hid (out ++ invO (zs.drop (bsum (ds.take k))) (s :: ds.drop (k + 1)) = invO zs ds) := by show _ = _; rw [← HD.out]; exact HE.out
      clear HE HD
      obtain ⟨ao5, cp5, e5⟩ := own_form hown
      subst e5
      cases s with
      | keep n =>
        simp only [St.op, St.Ok, St.b] at c0 c1 c2 hsk hbt
        obtain ⟨qo, qc, rfl, hqc, hqz⟩ := hq
        have hdl : (zs.drop (bsum (ds.take k))).length = zs.length - bsum (ds.take k) := List.length_drop
        obtain ⟨b', o', rfl, hb', hcell⟩ := hqz (by omega)
        obtain ⟨L, hL⟩ : ∃ L, L = (zs.drop (bsum (ds.take k))).length := ⟨_, rfl⟩
        have hLn : n ≤ L := by omega
        have R := rdr_rest b' o' L qc n (zs.drop (bsum (ds.take k))) hL hLn (by omega) hb' hcell
        rw [List.drop_drop, ← hbt] at R
        have HZ : Hid (L = n → (zs.drop (bsum (ds.take (k + 1)))).length = 0) := fun h => by rw [List.length_drop]; omega
        have HE3 : Hid ((out ++ [⟨1, n, ⟨#[]⟩⟩]) ++ invO (zs.drop (bsum (ds.take (k + 1)))) (ds.drop (k + 1)) = invO zs ds) := by
          show _ = _
          rw [← HE2.out, invO, List.drop_drop, hbt, List.append_assoc]; rfl
        have HL : Hid ((out ++ [(⟨1, n, ⟨#[]⟩⟩ : OpD)]).length = k + 1) := by show _ = _; rw [List.length_append, hlen]; rfl
        rw [← hL] at hqc
        rw [← hL]
        have hLi : (n : Int) ≤ (L : Int) := by omega
        have hLq : (n : Int) ≤ (qc : Int) := by omega
        clear HE2 hcell hqz hbt hlen hst hst2 hdl hL
        by_cases hcp : qc = n
        · obtain rfl : L = n := by omega
          subst hcp
          clear R
          have R := rdr_none w (some ⟨b', o', none⟩) 0 _ (HZ.out rfl)
          clear HZ
          go_wp2
          go_region_law ((refine step_append_lies _ (by rfl) (.tmp 18) (.tmp 20) 22 (by rfl) w.heap.size 50 i0 (.agg #[.int .i64 0, .int .i64 0, .string ⟨#[]⟩]) 3 32 Try.underlying22 hin hz0 hz1 hz2 rfl (by decide) (.slice ao5 out.length cp5) out.length (ocs out) (by simp [Act.eval, Act.put]) ((hown.alloc _).alloc _) ⟨wr.heap.size + 1, 0, none⟩ 1 1 [.int .i64 1, .int .i64 (qc : Int), .string ⟨#[]⟩] (by simp [Act.eval, Act.put]) rfl (many_newTD _ _ _ _) (three_one _ _ _) (by decide) (by unfold maxLen; omega) (by omega) (by simp; omega) (wr.heap.size + 2) (by simp) ?_; intro g4 c4 w4 ho4 hg4 _ _; obtain ⟨R4, B4, y4⟩ := app_facts hbl hown ho4 hg4; clear ho4 hg4))
          all_goals
            go_wp2
            go_roundw
            case rel => exact ⟨k + 1, _, by omega, by go_num, R, R4, HL.out, HE3, B4⟩
            case measure => simp [intOf]; omega
        · clear HZ
          go_wp2
          go_region_law ((refine step_append_lies _ (by rfl) (.tmp 18) (.tmp 20) 22 (by rfl) w.heap.size 50 i0 (.agg #[.int .i64 0, .int .i64 0, .string ⟨#[]⟩]) 3 32 Try.underlying22 hin hz0 hz1 hz2 rfl (by decide) (.slice ao5 out.length cp5) out.length (ocs out) (by simp [Act.eval, Act.put]) ((hown.alloc _).alloc _) ⟨wr.heap.size + 1, 0, none⟩ 1 1 [.int .i64 1, .int .i64 n, .string ⟨#[]⟩] (by simp [Act.eval, Act.put]) rfl (many_newTD _ _ _ _) (three_one _ _ _) (by decide) (by unfold maxLen; omega) (by omega) (by simp; omega) (wr.heap.size + 2) (by simp) ?_; intro g4 c4 w4 ho4 hg4 _ _; obtain ⟨R4, B4, y4⟩ := app_facts hbl hown ho4 hg4; clear ho4 hg4))
          all_goals
            go_wp2
            go_roundw
            case rel => exact ⟨k + 1, _, by omega, by go_num, R, R4, HL.out, HE3, B4⟩
            case measure => simp [intOf]; omega
      | rem n =>
        simp only [St.op, St.Ok, St.b] at c0 c1 c2 hsk hbt
        obtain ⟨qo, qc, rfl, hqc, hqz⟩ := hq
        have hdl : (zs.drop (bsum (ds.take k))).length = zs.length - bsum (ds.take k) := List.length_drop
        obtain ⟨b', o', rfl, hb', hcell⟩ := hqz (by omega)
        obtain ⟨L, hL⟩ : ∃ L, L = (zs.drop (bsum (ds.take k))).length := ⟨_, rfl⟩
        have hLn : n ≤ L := by omega
        have R := rdr_rest b' o' L qc n (zs.drop (bsum (ds.take k))) hL hLn (by omega) hb' hcell
        rw [List.drop_drop, ← hbt] at R
        have HZ : Hid (L = n → (zs.drop (bsum (ds.take (k + 1)))).length = 0) := fun h => by rw [List.length_drop]; omega
        obtain ⟨T, hT⟩ : ∃ T, T = mk (enc ((zs.drop (bsum (ds.take k))).take n)) := ⟨_, rfl⟩
        have hcv := conv_runes ((wr.alloc (.cells #[.int .i64 3, .int .i64 (n : Int), .string ⟨#[]⟩] 50)).drew) b' o' n qc (zs.drop (bsum (ds.take k))) (by omega) (fun z hz => hzs z (List.mem_of_mem_drop hz))
          (fun i hi => by
            rw [← hcell i hi, ← hbl.cell (p := ⟨b', o' + i, none⟩) hb']
            exact World.cell?_alloc_past _ _ _ (by omega))
        rw [← hT] at hcv
        have HE3 : Hid ((out ++ [⟨2, 0, T⟩]) ++ invO (zs.drop (bsum (ds.take (k + 1)))) (ds.drop (k + 1)) = invO zs ds) := by
          show _ = _
          rw [← HE2.out, invO, List.drop_drop, hbt, List.append_assoc, hT]; rfl
        have HL : Hid ((out ++ [(⟨2, 0, T⟩ : OpD)]).length = k + 1) := by show _ = _; rw [List.length_append, hlen]; rfl
        have hI := otIns_any T
        rw [← hL] at hqc
        rw [← hL]
        have hLi : (n : Int) ≤ (L : Int) := by omega
        have hLq : (n : Int) ≤ (qc : Int) := by omega
        have hn0 : n ≠ 0 := by omega
        clear HE2 hcell hqz hbt hlen hst hst2 hdl hL hT
        by_cases hcp : qc = n
        · obtain rfl : L = n := by omega
          subst hcp
          clear R
          have R := rdr_none w (some ⟨b', o', none⟩) 0 _ (HZ.out rfl)
          clear HZ
          go_wp2
          go_region_law (first
            | (refine step_append_lies _ (by rfl) (.tmp 28) (.tmp 35) 22 (by rfl) w.heap.size 50 i0 (.agg #[.int .i64 0, .int .i64 0, .string ⟨#[]⟩]) 3 32 Try.underlying22 hin hz0 hz1 hz2 rfl (by decide) (.slice ao5 out.length cp5) out.length (ocs out) (by simp [Act.eval, Act.put]) (own1.alloc _) ⟨w1.heap.size, 0, none⟩ 1 1 [.int .i64 2, .int .i64 0, .string T] (by simp [Act.eval, Act.put]) rfl (many_new _ _ _) (three_one _ _ _) (by decide) (by unfold maxLen; omega) (by omega) (by simp; omega) (w1.heap.size + 1) (by simp) ?_; intro g4 c4 w4 ho4 hg4 _ _; obtain ⟨R4, B4, y4⟩ := rem_app bl1 own1 hown lt1 x1 ho4 hg4; clear ho4 hg4)
            | (go_simp; go_at_call 50; refine (hI _).mono ?_; rintro e w1 ⟨rfl, hb1⟩; obtain ⟨own1, x1, xz1, bl1, lt1⟩ := rem_call hbl hown hb1; have sz1 := bl1.size; clear hb1))
          all_goals
            go_wp2
            go_roundw
            case rel => exact ⟨k + 1, _, by omega, by go_num, R, R4, HL.out, HE3, B4⟩
            case measure => simp [intOf]; omega
        · clear HZ
          go_wp2
          go_region_law (first
            | (refine step_append_lies _ (by rfl) (.tmp 28) (.tmp 35) 22 (by rfl) w.heap.size 50 i0 (.agg #[.int .i64 0, .int .i64 0, .string ⟨#[]⟩]) 3 32 Try.underlying22 hin hz0 hz1 hz2 rfl (by decide) (.slice ao5 out.length cp5) out.length (ocs out) (by simp [Act.eval, Act.put]) (own1.alloc _) ⟨w1.heap.size, 0, none⟩ 1 1 [.int .i64 2, .int .i64 0, .string T] (by simp [Act.eval, Act.put]) rfl (many_new _ _ _) (three_one _ _ _) (by decide) (by unfold maxLen; omega) (by omega) (by simp; omega) (w1.heap.size + 1) (by simp) ?_; intro g4 c4 w4 ho4 hg4 _ _; obtain ⟨R4, B4, y4⟩ := rem_app bl1 own1 hown lt1 x1 ho4 hg4; clear ho4 hg4)
            | (go_simp; go_at_call 50; refine (hI _).mono ?_; rintro e w1 ⟨rfl, hb1⟩; obtain ⟨own1, x1, xz1, bl1, lt1⟩ := rem_call hbl hown hb1; have sz1 := bl1.size; clear hb1))
          all_goals
            go_wp2
            go_roundw
            case rel => exact ⟨k + 1, _, by omega, by go_num, R, R4, HL.out, HE3, B4⟩
            case measure => simp [intOf]; omega
      | ins t =>
        simp only [St.op, St.Ok, St.b] at c0 c1 c2 hsk hbt
        have hcp0 : 0 ≤ cpl t := by omega
        have hts := size_cpl hsk.1.1
        have hcl : (cpl t).toNat ≤ 1000 := hsk.2
        have hRu := fun W => runes_any t W (by omega) hcp0
        have hRe := otRem_any (cpl t)
        have HE3 : Hid ((out ++ [⟨3, cpl t, ⟨#[]⟩⟩]) ++ invO (zs.drop (bsum (ds.take (k + 1)))) (ds.drop (k + 1)) = invO zs ds) := by
          show _ = _
          rw [← HE2.out, invO, List.append_assoc, hbt, Nat.add_zero]; rfl
        have HL : Hid ((out ++ [(⟨3, cpl t, ⟨#[]⟩⟩ : OpD)]).length = k + 1) := by show _ = _; rw [List.length_append, hlen]; rfl
        rw [show bsum (ds.take k) = bsum (ds.take (k + 1)) by omega] at hq
        have hA : Below w.heap.size w (wr.alloc (.cells #[.int .i64 2, .int .i64 0, .string t] 50)) := hbl.alloc hsz _
        have hO1 := hown.alloc (.cells #[.int .i64 2, .int .i64 0, .string t] 50)
        clear HE2 hbt hlen hst hst2 hsk
        generalize cpl t = ct at *
        go_wp2_with (first
          | (go_at_call 52; refine (hRu _).mono ?_; rintro e w1 ⟨rfl, hb1⟩; have hA1 := hA.trans (hb1.mono hA.size); have hO2 := own_belowG hO1 hb1)
          | (go_at_call 55; refine (hRe _).mono ?_; rintro e w2 ⟨rfl, hb2⟩; have hA2 := hA1.trans (hb2.mono hA1.size); have hO3 := own_belowG hO2 hb2; have sz2 := hA2.size)
          | (at_builtin; refine wpList_append_lies _ rfl (.tmp 43) (.tmp 48) 22 rfl w.heap.size 50 i0 (.agg #[.int .i64 0, .int .i64 0, .string ⟨#[]⟩]) 3 32 Try.underlying22 hin hz0 hz1 hz2 rfl (by decide) (.slice ao5 out.length cp5) out.length (ocs out) rfl (hO3.alloc _) ⟨_, 0, none⟩ 1 1 [.int .i64 3, .int .i64 ct, .string ⟨#[]⟩] rfl rfl (many_new _ _ _) (three_one _ _ _) (by decide) (by unfold maxLen; omega) (by omega) (by simp; omega) _ rfl ?_; intro g4 c4 w4 ho4 hg4 _ _))
        have R4 := own_op (o := ⟨3, ct, ⟨#[]⟩⟩) ho4 rfl
        have B4 : Below w.heap.size w w4 := (hA2.alloc sz2 _).grown hg4 (by simp; omega) (fun k hk => (hO3.lt k hk).1)
        go_roundw
        case rel => exact ⟨k + 1, _, by omega, by go_num, hq, R4, HL.out, HE3, B4⟩
        case measure => simp [intOf]; omega
    · have e : k = ds.length := by omega
      subst e
      rw [List.take_length, List.drop_length] at HE
      have HF : Hid (out = invO zs ds) := by show _ = _; rw [← HE.out]; simp [invO]
      clear HE hc ho
      go_wp2
      go_ret
      exact ⟨_, rfl, by rw [← HF.out]; exact hown, hbl⟩
end Go.Proofs.Ytphbjbigjpfjfaa

/-
  The contract of transformed.
-/
namespace Go.Proofs.Ytphbjbigjpfjfaa
open Go.ChangeShapes Go.WideShapes Go.ChangeAt Go.RowKit Go.PlainAid Go.Maps

theorem cpl_nil : cpl ⟨#[]⟩ = 0 := by
  have := cpl_ok (s := ⟨#[]⟩) (n := 0) ⟨fun k hk => by omega, rfl⟩
  simpa using this
/-- What a place may put in. -/
def PutOk (t : ByteArray) : Prop := 0 ≤ cpl t ∧ t.size ≤ 4000
theorem putOk_nil : PutOk ⟨#[]⟩ := ⟨by rw [cpl_nil]; omega, by show 0 ≤ 4000; omega⟩
theorem reps_ok {p : ByteArray} {k : Int} (hp : PutOk p) (hk : 0 ≤ k ∧ k < 256) : ∀ (n : Nat) (p : ByteArray), PutOk p → ∀ s ∈ reps p k n, s.Ok ∧ PutOk s.put
  | 0, _, _, s, hs => by simp [reps] at hs
  | n + 1, p', hp', s, hs => by
    rw [reps] at hs
    rcases List.mem_cons.1 hs with rfl | hs
    · exact ⟨hk, hp'⟩
    · exact reps_ok hp hk n _ putOk_nil s hs
theorem spots_ok : ∀ (ds : List St) (p : ByteArray), PutOk p → (∀ s ∈ ds, s.Ok ∧ s.c ≤ 1000) → ∀ s ∈ spots ds p, s.Ok ∧ PutOk s.put
  | [], p, hp, _, s, hs => by
    simp only [spots, List.mem_singleton] at hs
    subst hs
    exact ⟨⟨by show (0 : Int) ≤ 0; decide, by show (0 : Int) < 256; decide⟩, hp⟩
  | .ins t :: ds, p, hp, ho, s, hs => by
    have h := ho (.ins t) (by simp)
    have h1 : 0 < cpl t := h.1.1
    have h2 : (cpl t).toNat ≤ 1000 := h.2
    have h3 := size_cpl h1
    exact spots_ok ds t ⟨by omega, by omega⟩ (fun x hx => ho x (by simp [hx])) s hs
  | .keep n :: ds, p, hp, ho, s, hs => by
    rw [spots] at hs
    rcases List.mem_append.1 hs with hs | hs
    · exact reps_ok hp ⟨by decide, by decide⟩ n p hp s hs
    · exact spots_ok ds _ putOk_nil (fun x hx => ho x (by simp [hx])) s hs
  | .rem n :: ds, p, hp, ho, s, hs => by
    rw [spots] at hs
    rcases List.mem_append.1 hs with hs | hs
    · exact reps_ok hp ⟨by decide, by decide⟩ n p hp s hs
    · exact spots_ok ds _ putOk_nil (fun x hx => ho x (by simp [hx])) s hs
theorem outO_len (first : Bool) (x y : Spot) : (outO first x y).length ≤ 3 := by
  unfold outO
  rw [List.length_append]
  have h1 : ((if first then [mineO x, thrsO y] else [thrsO y, mineO x]).filter OpD.does).length ≤ 2 := by
    refine Nat.le_trans (List.length_filter_le _ _) ?_
    cases first <;> simp
  have h2 : (if y.k = 1 then [(⟨x.k, 1, ⟨#[]⟩⟩ : OpD)] else []).length ≤ 1 := by split <;> simp
  omega
theorem tfO_len (first : Bool) : ∀ (SA SB : List Spot), (tfO first SA SB).length ≤ 3 * SB.length
  | [], SB => by simp [tfO]
  | x :: SA, [] => by simp [tfO]
  | x :: SA, y :: SB => by
    have h1 := outO_len first x y
    have h2 := tfO_len first SA SB
    have e : tfO first (x :: SA) (y :: SB) = outO first x y ++ tfO first SA SB := by simp [tfO]
    rw [e, List.length_append, List.length_cons]
    omega

set_option maxRecDepth 20000 in
set_option maxHeartbeats 2000000 in
theorem transformed_any (vA vB : Value) (first : Bool) (dA dB : List St) (w : World) (hA : RdD w vA (dA.map St.op)) (hB : RdD w vB (dB.map St.op)) (hbA : ∀ g, vA.ownBlock = some g → g < w.heap.size) (hbB : ∀ g, vB.ownBlock = some g → g < w.heap.size)
    (okA : ∀ s ∈ dA, s.Ok ∧ s.c ≤ 1000) (okB : ∀ s ∈ dB, s.Ok ∧ s.c ≤ 1000) (lA : dA.length ≤ 3000) (lB : dB.length ≤ 3000) (hb : bsum dA = bsum dB) (hbs : bsum dB ≤ 1000) :
    Calls Try.prog 31 #[vA, vB, .bool first] w fun e w' => ∃ u, e = .returned u ∧ w'.ownsRow w.heap.size 50 3 u (tfO first (spots dA ⟨#[]⟩) (spots dB ⟨#[]⟩)).length (ocs (tfO first (spots dA ⟨#[]⟩) (spots dB ⟨#[]⟩))) ∧ Below w.heap.size w w' := by
  have hmf : ∀ (fn : Fn) (fst cap : Array Value) (w : World), (Instr.makeFunc fn fst cap).run Try.prog w = .ok (.func fn fst cap) w := fun _ _ _ _ => rfl
  have hmm := @run_makeMap Try.prog
  obtain ⟨SA, HSA⟩ : ∃ SA, SA = spots dA ⟨#[]⟩ := ⟨_, rfl⟩
  obtain ⟨SB, HSB⟩ : ∃ SB, SB = spots dB ⟨#[]⟩ := ⟨_, rfl⟩
  have sA := spots_ok dA ⟨#[]⟩ putOk_nil okA
  have sB := spots_ok dB ⟨#[]⟩ putOk_nil okB
  have nA := spots_len dA ⟨#[]⟩
  have nB := spots_len dB ⟨#[]⟩
  rw [← HSA] at sA nA ⊢
  rw [← HSB] at sB nB ⊢
  -- the world ahead of the first along
  obtain ⟨W0, HW0⟩ : ∃ W0, W0 = ((w.alloc (.cells #[.bool first] 4)).alloc (.map #[] 0)).alloc (.cells #[.map (some (w.heap.size + 1))] 78) := ⟨_, rfl⟩
  have hO0 : ∀ S, Only S w W0 := fun S => by rw [HW0]; exact ((Only.alloc S _ _).trans (Only.alloc S _ _)).trans (Only.alloc S _ _)
  have hz0 : W0.heap.size = w.heap.size + 3 := by rw [HW0]; simp
  have h5 : W0.heap[w.heap.size]? = some (.cells #[.bool first] 4 (0, 0)) := by
    rw [HW0]
    exact only_heap (heap_alloc_new w _) ((Only.alloc [] _ _).trans (Only.alloc [] _ _)) (by simp)
  have h7 : W0.heap[w.heap.size + 2]? = some (.cells #[.map (some (w.heap.size + 1))] 78 (0, 0)) := by
    rw [HW0]
    have := heap_alloc_new ((w.alloc (.cells #[.bool first] 4)).alloc (.map #[] 0)) (.cells #[.map (some (w.heap.size + 1))] 78)
    simpa using this
  have hm : MpS W0 (w.heap.size + 1) [] := by
    have h1 := World.ownsMap_made (w.alloc (.cells #[.bool first] 4)) Try.prog 3 spotR
    rw [World.size_alloc] at h1
    have e : DF 2000 (spF []) = .map [] := by
      have e2 : spF [] = fun _ => none := by funext i; simp [spF]
      rw [e2, DF_none]
    show World.ownsMap _ _ _ _ _ 2000 (DF 2000 (spF []))
    rw [e, HW0]
    exact (h1.alloc _).mono (Nat.zero_le _)
  have hI1 : I1 SB (w.heap.size + 2) (w.heap.size + 1) 0 [w.heap.size + 1] W0 := ⟨rfl, h7, by simpa using hm, by omega⟩
  have hC1 := along_any 48 (fun _ _ => by kernel_rfl) #[.pointer (some ⟨w.heap.size + 2, 0, none⟩)] vB dB W0 (I1 SB (w.heap.size + 2) (w.heap.size + 1)) [w.heap.size + 1] (rdd_only hB (hO0 []) (by simp)) (fun g e => by have := hbB g e; simp; omega) (fun s hs => (okB s hs).1) hbs lB
    (fun _ _ _ x h => h.alloc x) (fun _ _ _ h => h.lt) (fun i s BL W hs h => see1_any h (by rw [HSB]; exact hs) (sB s (by rw [HSB]; exact List.mem_of_getElem? hs)).1 (by omega)) hI1
  subst HW0
  go_enter Try.func31, Try.ntmps31
  go_wp2_with fail
  refine hC1.mono ?_
  rintro e w1 ⟨rfl, BL1, hal1⟩
  have hi1 := hal1.inv
  have hMB : MpS w1 (w.heap.size + 1) SB := by
    have := hi1.mp
    rw [← nB, List.take_length] at this
    exact this
  have hO1 : Only [] w w1 := (hO0 []).new hal1.only (fun i hi => .inr (by simp at hi; omega))
  have h51 : w1.heap[w.heap.size]? = some (.cells #[.bool first] 4 (0, 0)) := only_heap h5 hal1.only (by simp)
  have hs1 := hal1.only.size
  have hI2 : I2 w.heap.size SA SB first w.heap.size (w.heap.size + 2) w1.heap.size (w.heap.size + 1) 0 [w1.heap.size] (w1.alloc (.cells #[.slice none 0 0] 22)) := by
    have hOa := Only.alloc [] w1 (.cells #[.slice none 0 0] 22)
    exact ⟨⟨.slice none 0 0, rfl, heap_alloc_new w1 _, World.ownsRow_nil _ _ _ _, by simp; omega⟩, only_heap h51 hOa (by simp), only_heap hi1.cp hOa (by simp), hMB.only hOa (by simp)⟩
  have hC2 := along_any 49 (fun _ _ => by kernel_rfl) #[.pointer (some ⟨w.heap.size + 2, 0, none⟩), .pointer (some ⟨w.heap.size, 0, none⟩), .pointer (some ⟨w1.heap.size, 0, none⟩)] vA dA (w1.alloc (.cells #[.slice none 0 0] 22)) (I2 w.heap.size SA SB first w.heap.size (w.heap.size + 2) w1.heap.size (w.heap.size + 1)) [w1.heap.size]
    (rdd_only hA (hO1.trans (Only.alloc [] _ _)) (by simp)) (fun g e => by have := hbA g e; simp; omega) (fun s hs => (okA s hs).1) (by omega) lA
    (fun _ _ _ x h => h.alloc x) (fun _ _ _ h => h.lt) (fun i s BL W hs h => by
      have hs' : SA[i]? = some s := by rw [HSA]; exact hs
      have hi : i < SA.length := (List.getElem?_eq_some_iff.1 hs').1
      have hiB : i < SB.length := by omega
      have hy : SB[i]? = some SB[i] := List.getElem?_eq_getElem hiB
      have hp := sB SB[i] (List.getElem_mem hiB)
      exact see2_any h hs' hy hp.1 hp.2.1 (by have := hp.2.2; omega) (by omega) (by
        have := tfO_len first (SA.take i) (SB.take i)
        rw [List.length_take] at this
        omega)) hI2
  clear hC1 hal1 hi1 hm hI1 h5 h7
  go_wp2_with fail
  refine hC2.mono ?_
  rintro e w2 ⟨rfl, BL2, hal2⟩
  obtain ⟨d, _, hd⟩ := hal2.inv.ex
  rw [← nA, List.take_length, show SA.length = SB.length by omega, List.take_length] at hd
  have hc8 : w2.cell? ⟨w1.heap.size, 0, none⟩ = some d := cell_of_row _ _ 0 _ _ (0, 0) hd.cell
  have hO2 : Only [] w w2 := (hO1.trans (Only.alloc [] _ _)).new hal2.only (fun i hi => .inr (by simp at hi; omega))
  clear hC2
  go_wp2_with fail
  go_ret
  exact ⟨_, rfl, hd.own, hO2.below (Nat.le_refl _) (by simp)⟩
end Go.Proofs.Ytphbjbigjpfjfaa

/-
  The contract of Transform.
-/
namespace Go.Proofs.Ytphbjbigjpfjfaa
open Go.ChangeShapes Go.WideShapes Go.ChangeAt Go.RowKit Go.PlainAid

/-- What transformed gives of two deltas. -/
def trW (first : Bool) (A B : List OpD) : List OpD := tfO first (spots (stR (jn (stR A))) ⟨#[]⟩) (spots (stR (jn (stR B))) ⟨#[]⟩)
/-- What Transform gives. -/
def trR (first : Bool) (A B : List OpD) : List OpD × Int :=
  if chk A = 0 then (if chk B = 0 then (if bsum (stR A) = bsum (stR B) then (jn (stR (trW first A B)), chk (trW first A B)) else ([], 91)) else ([], chk B)) else ([], chk A)

theorem tfO_in (first : Bool) : ∀ (SA SB : List Spot), (∀ s ∈ SA, PutOk s.put) → ∀ o ∈ tfO first SA SB, o.In
  | [], SB, _, o, ho => by simp [tfO] at ho
  | x :: SA, [], _, o, ho => by simp [tfO] at ho
  | x :: SA, y :: SB, h, o, ho => by
    have e : tfO first (x :: SA) (y :: SB) = outO first x y ++ tfO first SA SB := by simp [tfO]
    rw [e] at ho
    have hn : (⟨#[]⟩ : ByteArray).size ≤ 140737488355328 := Nat.zero_le _
    have hm : (mineO x).In := by have := (h x (by simp)).2; show x.put.size ≤ _; omega
    rcases List.mem_append.1 ho with ho | ho
    · unfold outO at ho
      rcases List.mem_append.1 ho with ho | ho
      · have := (List.mem_filter.1 ho).1
        cases first <;> simp at this <;> rcases this with rfl | rfl
        · exact hn
        · exact hm
        · exact hm
        · exact hn
      · split at ho
        · simp at ho; subst ho; exact hn
        · simp at ho
    · exact tfO_in first SA SB (fun s hs => h s (by simp [hs])) o ho

set_option maxRecDepth 20000 in
set_option maxHeartbeats 2000000 in
theorem transform_any (vA vB : Value) (first : Bool) (A B : List OpD) (w : World) (hA : RdD w vA A) (hB : RdD w vB B) (mA : A.length ≤ maxLen) (mB : B.length ≤ maxLen) (iA : ∀ o ∈ A, o.In) (iB : ∀ o ∈ B, o.In) :
    Calls Try.prog 14 #[vA, vB, .bool first] w fun e w' => ∃ u, e = .returned (.tuple #[u, .int .i64 (trR first A B).2]) ∧ w'.ownsRow w.heap.size 50 3 u (trR first A B).1.length (ocs (trR first A B).1) ∧ Below w.heap.size w w' := by
  by_cases c : chk A = 0 ∧ chk B = 0
  · obtain ⟨c1, c2⟩ := c
    have hC := normals_ok vA vB A B w hA hB mA mB iA iB c1 c2
    have okA := stR_ok iA
    have okB := stR_ok iB
    have bdA := stR_bd A
    have bdB := stR_bd B
    obtain ⟨a1, a2, a3, a4, a5⟩ := normal_facts okA bdA.1 bdA.2
    obtain ⟨b1, b2, b3, b4, b5⟩ := normal_facts okB bdB.1 bdB.2
    have jA := jn_in okA bdA.1 bdA.2
    have jB := jn_in okB bdB.1 bdB.2
    have HA := kstR_op a1
    have HB := kstR_op b1
    have oA := stR_ok jA.2
    have oB := stR_ok jB.2
    have nA := stR_len (jn (stR A))
    have nB := stR_len (jn (stR B))
    have HCo : Hid (trR first A B = if bsum (stR A) = bsum (stR B) then (jn (stR (trW first A B)), chk (trW first A B)) else ([], 91)) := by show _ = _; rw [trR, if_pos c1, if_pos c2]
    have HW : Hid (trW first A B = tfO first (spots (stR (jn (stR A))) ⟨#[]⟩) (spots (stR (jn (stR B))) ⟨#[]⟩)) := rfl
    generalize jn (stR A) = NA at *
    generalize jn (stR B) = NB at *
    clear a2 a3 b2 b3 c1 c2 hA hB mA mB iA iB okA okB
    go_enter Try.func14, Try.ntmps14
    go_wp2_with fail
    refine hC.mono ?_
    rintro e w1 ⟨uA, uB, rfl, hoA, hoB, hap, hb1⟩
    have hT := base_any uA NA w1 (rdd_own hoA) (by have := jA.1; unfold maxLen; omega) jA.2
    rw [a1, a4] at hT
    clear hC
    go_wp2_with fail
    refine hT.mono ?_
    rintro e w2 ⟨rfl, hb2⟩
    have hS := base_any uB NB w2 ((rdd_own hoB).below hb2) (by have := jB.1; unfold maxLen; omega) jB.2
    rw [b1, b4] at hS
    clear hT
    go_wp2_with fail
    refine hS.mono ?_
    rintro e w3 ⟨rfl, hb3⟩
    clear hS
    by_cases ct : bsum (stR A) = bsum (stR B)
    · have ct' : ((bsum (stR A) : Int) != (bsum (stR B) : Int)) = false := by simp [ct]
      have hs2 := hb2.size
      have hs3 := hb3.size
      have okA' : ∀ s ∈ stR NA, s.Ok ∧ s.c ≤ 1000 := fun s hs => ⟨oA s hs, by have := c_le hs; omega⟩
      have okB' : ∀ s ∈ stR NB, s.Ok ∧ s.c ≤ 1000 := fun s hs => ⟨oB s hs, by have := c_le hs; omega⟩
      have hK := transformed_any uA uB first (stR NA) (stR NB) w3 (by rw [HA]; exact ((rdd_own hoA).below hb2).below hb3) (by rw [HB]; exact ((rdd_own hoB).below hb2).below hb3)
        (fun g e => by have := (hoA.lt g e).2; omega) (fun g e => by have := (hoB.lt g e).2; omega) okA' okB' (by omega) (by omega) (by rw [a4, b4, ct]) (by omega)
      have hlen : (tfO first (spots (stR NA) ⟨#[]⟩) (spots (stR NB) ⟨#[]⟩)).length ≤ 4000 := by
        have := tfO_len first (spots (stR NA) ⟨#[]⟩) (spots (stR NB) ⟨#[]⟩)
        rw [spots_len] at this
        omega
      have hin : ∀ o ∈ tfO first (spots (stR NA) ⟨#[]⟩) (spots (stR NB) ⟨#[]⟩), o.In := tfO_in first _ _ (fun s hs => (spots_ok (stR NA) ⟨#[]⟩ putOk_nil okA' s hs).2)
      rw [← HW.out] at hK hlen hin
      have HCT : Hid (bsum (stR A) = bsum (stR B)) := ct
      clear ct HA HB a4 a5 b4 b5 a1 b1 HW
      generalize trW first A B = C at *
      go_wp2_with fail
      refine hK.mono ?_
      rintro e w4 ⟨u4, rfl, ho4, hb4⟩
      have hN := normal_any u4 C w4 (rdd_own ho4) (by unfold maxLen; omega) hin
      clear hK
      go_wp2_with fail
      refine hN.mono ?_
      rintro e w5 ⟨u5, rfl, ho5, hb5⟩
      clear hN
      go_wp2_with fail
      go_ret2
      rw [HCo.out, if_pos HCT.out]
      have hs4 := hb4.size
      have hs1 := hb1.size
      exact ⟨_, rfl, own_lower ho5 (by omega), (((hb1.trans (hb2.mono hs1)).trans (hb3.mono (by omega))).trans (hb4.mono (by omega))).trans (hb5.mono (by omega))⟩
    · have ct' : ((bsum (stR A) : Int) != (bsum (stR B) : Int)) = true := by simp; omega
      go_wp2_with fail
      go_ret2
      rw [HCo.out, if_neg ct]
      exact ⟨_, rfl, World.ownsRow_nil _ _ _ _, (hb1.trans (hb2.mono hb1.size)).trans (hb3.mono (Nat.le_trans hb1.size hb2.size))⟩
  · have hC := normals_bad vA vB A B w hA hB mA mB iA iB c
    have hco : trR first A B = ([], if chk A = 0 then chk B else chk A) := by
      rw [trR]
      by_cases h1 : chk A = 0
      · rw [if_pos h1, if_neg (fun h => c ⟨h1, h⟩), if_pos h1]
      · rw [if_neg h1, if_neg h1]
    have hne : ((if chk A = 0 then chk B else chk A) != 0) = true := by
      split
      · rename_i h1; simp; exact fun h => c ⟨h1, h⟩
      · rename_i h1; simpa using h1
    rw [hco]
    generalize (if chk A = 0 then chk B else chk A) = er at *
    clear hco
    go_enter Try.func14, Try.ntmps14
    go_wp2_with fail
    refine hC.mono ?_
    rintro e w1 ⟨rfl, hb1⟩
    go_wp2_with fail
    go_ret2
    exact ⟨_, rfl, World.ownsRow_nil _ _ _ _, hb1⟩
end Go.Proofs.Ytphbjbigjpfjfaa

/-
  The contract of Invert.
-/
namespace Go.Proofs.Ytphbjbigjpfjfaa
open Go.ChangeShapes Go.WideShapes Go.ChangeAt Go.RowKit Go.PlainAid

theorem runesFrom_at {s : ByteArray} {n : Nat} (hv : Valid s n) : ∀ (bound k : Nat) (acc : Array Value), k ≤ n → n - k ≤ bound → Conv.runesFrom s bound (pos s k) acc = acc ++ (((List.range' k (n - k)).map fun j => Value.int .i32 (pt s j)).toArray)
  | 0, k, acc, hk, hb => by
    have : n - k = 0 := by omega
    rw [this]
    simp [Conv.runesFrom]
  | b + 1, k, acc, hk, hb => by
    rw [Conv.runesFrom]
    by_cases h : k = n
    · subst h
      rw [if_neg (by rw [hv.2]; omega)]
      simp
    · have h1 := hv.1 k (by omega)
      have hd := dec_pos hv (k := k) (by omega)
      rw [if_pos h1.1]
      simp only
      rw [hd.2.1, show (Int.ofNat (Utf8.decode s (pos s k)).1 : Int) = pt s k from hd.1, runesFrom_at hv b (k + 1) _ (by omega) (by omega), show n - k = (n - (k + 1)) + 1 by omega, List.range'_succ]
      simp
theorem runes_pts {s : ByteArray} (h : 0 ≤ cpl s) : Conv.runesFrom s s.size 0 #[] = ((pts s).map (Value.int .i32)).toArray := by
  have hv := cpl_valid h
  have hp := pos_le hv.1 _ (Nat.le_refl _)
  have := runesFrom_at hv s.size 0 #[] (by omega) (by omega)
  rw [show pos s 0 = 0 from rfl] at this
  rw [this, pts, ptL]
  simp [List.range_eq_range']

/-- What Invert gives. -/
def inR (s : ByteArray) (D : List OpD) : List OpD × Int :=
  if (apR s D).2 = 0 then (jn (stR (invO (pts s) (stR D))), chk (invO (pts s) (stR D))) else ([], (apR s D).2)

theorem rdr_new {W : World} {zs : List Int} {cap : Nat} (hc : zs.length ≤ cap) (e : TypeId) :
    RdR (W.alloc (.cells ((zs.map (Value.int .i32)).toArray ++ Array.replicate (cap - zs.length) (.int .i32 0)) e)) (.slice (some ⟨W.heap.size, 0, none⟩) zs.length cap) zs := by
  refine ⟨_, _, rfl, hc, fun _ => ⟨W.heap.size, 0, rfl, by simp, fun i hi => ?_⟩⟩
  have h := heap_alloc_new W (.cells ((zs.map (Value.int .i32)).toArray ++ Array.replicate (cap - zs.length) (.int .i32 0)) e)
  unfold World.cell?
  rw [h]
  simp only [Nat.zero_add]
  rw [Array.getElem?_append_left (by simpa using hi)]
  simp [hi]

theorem invO_in : ∀ (l : List St) (zs : List Int), zs.length ≤ 1000 → ∀ o ∈ invO zs l, o.In
  | [], _, _, o, ho => by simp [invO] at ho
  | .keep n :: l, zs, h, o, ho => by
    rw [invO] at ho
    rcases List.mem_cons.1 ho with rfl | ho
    · exact Nat.zero_le _
    · exact invO_in l _ (by rw [List.length_drop]; omega) o ho
  | .rem n :: l, zs, h, o, ho => by
    rw [invO] at ho
    rcases List.mem_cons.1 ho with rfl | ho
    · have := enc_len (zs.take n)
      have h2 : (zs.take n).length ≤ 1000 := by rw [List.length_take]; omega
      show (mk _).size ≤ _
      rw [mk_size]
      omega
    · exact invO_in l _ (by rw [List.length_drop]; omega) o ho
  | .ins t :: l, zs, h, o, ho => by
    rw [invO] at ho
    rcases List.mem_cons.1 ho with rfl | ho
    · exact Nat.zero_le _
    · exact invO_in l _ h o ho

theorem apR_zero' {s : ByteArray} {A : List OpD} (h : (apR s A).2 = 0) : 0 ≤ cpl s ∧ chk A = 0 ∧ (bsum (stR A) : Int) = cpl s := by
  rw [apR] at h
  split at h
  · simp at h
  · rename_i c1
    split at h
    · rename_i c2; exact absurd h c2
    · rename_i c2
      split at h
      · simp at h
      · rename_i c3
        exact ⟨by omega, by simpa using c2, by simpa using c3⟩

set_option maxRecDepth 20000 in
set_option maxHeartbeats 2000000 in
theorem invert_any (s : ByteArray) (v : Value) (D : List OpD) (w : World) (hs : s.size ≤ maxLen) (hr : RdD w v D) (hm : D.length ≤ maxLen) (hi : ∀ o ∈ D, o.In) :
    Calls Try.prog 16 #[.string s, v] w fun e w' => ∃ u, e = .returned (.tuple #[u, .int .i64 (inR s D).2]) ∧ w'.ownsRow w.heap.size 50 3 u (inR s D).1.length (ocs (inR s D).1) ∧ Below w.heap.size w w' := by
  have hA := apply_any s v D w hs hr hm hi
  by_cases c : (apR s D).2 = 0
  · obtain ⟨s0, s1, s2⟩ := apR_zero' c
    have HR : Hid (inR s D = (jn (stR (invO (pts s) (stR D))), chk (invO (pts s) (stR D)))) := by show _ = _; rw [inR, if_pos c]
    have hpl := pts_len (t := s) s0
    have hpo := pts_ok s0
    have bd := stR_bd D
    have hln := stR_len D
    have hok := stR_ok hi
    have hsz : (Conv.runesFrom s s.size 0 #[]).size = (pts s).length := by rw [runes_pts s0]; simp
    have hcv := fun (W : World) => run_runes_of_string (P := Try.prog) W 9 63 21 s Try.underlying9 Try.underlying63 Try.underlying21 (by rw [hsz]; omega)
    rw [hsz, runes_pts s0] at hcv
    have hG := fun (W : World) => grownCap_ge W (pts s).length 0 21
    have HD := kstR_op s1
    have hin := invO_in (stR D) (pts s) (by omega)
    have hV := fun (v0 : Value) (W : World) (h0 : RdR W v0 (pts s)) (h1 : RdD W v D) => inverted_any v0 v (pts s) (stR D) W h0 (by rw [HD]; exact h1) (by omega) (fun x hx => ⟨hok x hx, by have := c_le hx; omega⟩) (by omega) (by omega) hpo
    have hlen := invO_len (stR D) (pts s)
    rw [c] at hA
    clear c s0 s1 s2 hpl hpo bd hsz HD
    generalize pts s = zs at *
    generalize (apR s D).1 = t at *
    go_enter Try.func16, Try.ntmps16
    go_wp2_with fail
    refine hA.mono ?_
    rintro e w1 ⟨rfl, hb1⟩
    have hcv1 := hcv w1
    have hg1 := hG w1
    generalize grownCap w1 zs.length 0 21 = gc at *
    have hB2 : Below w1.heap.size w1 (w1.drew.alloc (.cells ((zs.map (Value.int .i32)).toArray ++ Array.replicate (gc - zs.length) (.int .i32 0)) 21)) := ((Below.refl _ _).drew).alloc (Nat.le_refl _) _
    have hI := hV (.slice (some ⟨w1.heap.size, 0, none⟩) zs.length gc) (w1.drew.alloc (.cells ((zs.map (Value.int .i32)).toArray ++ Array.replicate (gc - zs.length) (.int .i32 0)) 21)) (rdr_new (W := w1.drew) hg1 _) ((hr.below hb1).below hB2)
    clear hA hcv hG hV
    go_wp2_with fail
    refine hI.mono ?_
    rintro e w2 ⟨u2, rfl, ho2, hb2⟩
    have hN := normal_any u2 (invO zs (stR D)) w2 (rdd_own ho2) (by unfold maxLen; omega) hin
    clear hI
    go_wp2_with fail
    refine hN.mono ?_
    rintro e w3 ⟨u3, rfl, ho3, hb3⟩
    clear hN
    go_wp2_with fail
    go_ret2
    rw [HR.out]
    have q1 := hb1.size
    have q2 := hB2.size
    have q3 := hb2.size
    exact ⟨_, rfl, own_lower ho3 (by omega), ((hb1.trans (hB2.mono q1)).trans (hb2.mono (by omega))).trans (hb3.mono (by omega))⟩
  · have HR : Hid (inR s D = ([], (apR s D).2)) := by show _ = _; rw [inR, if_neg c]
    have hne : ((apR s D).2 != 0) = true := by simpa using c
    generalize apR s D = q at *
    go_enter Try.func16, Try.ntmps16
    go_wp2_with fail
    refine hA.mono ?_
    rintro e w1 ⟨rfl, hb1⟩
    go_wp2_with fail
    go_ret2
    rw [HR.out]
    exact ⟨_, rfl, World.ownsRow_nil _ _ _ _, hb1⟩
end Go.Proofs.Ytphbjbigjpfjfaa

/-
  The contract of live, layer 10.
-/
namespace Go.Proofs.Ytphbjbigjpfjfaa
open Go.ChangeShapes Go.WideShapes Go.ChangeAt Go.RowKit Go.PlainAid

def lA : List OpD := [⟨1, 1, ⟨#[]⟩⟩, ⟨2, 0, ⟨#[120]⟩⟩, ⟨1, 1, ⟨#[]⟩⟩]
def lB : List OpD := [⟨1, 1, ⟨#[]⟩⟩, ⟨2, 0, ⟨#[121]⟩⟩, ⟨1, 1, ⟨#[]⟩⟩]
def lT : List OpD := [⟨1, 1, ⟨#[]⟩⟩, ⟨2, 0, ⟨#[120]⟩⟩, ⟨1, 2, ⟨#[]⟩⟩]
def lC : List OpD := [⟨1, 1, ⟨#[]⟩⟩, ⟨2, 0, ⟨#[120, 121]⟩⟩, ⟨1, 1, ⟨#[]⟩⟩]
def lV : List OpD := [⟨1, 1, ⟨#[]⟩⟩, ⟨3, 1, ⟨#[]⟩⟩, ⟨1, 1, ⟨#[]⟩⟩]
theorem l_in {l : List OpD} (h : l = lA ∨ l = lB ∨ l = lT) : ∀ o ∈ l, o.In := by
  intro o ho
  rcases h with rfl | rfl | rfl <;> simp only [lA, lB, lT, List.mem_cons, List.not_mem_nil, or_false] at ho <;> rcases ho with rfl | rfl | rfl <;> (show ByteArray.size _ ≤ _; decide)
theorem lA_chk : chk lA = 0 := by decide
theorem lB_chk : chk lB = 0 := by decide
theorem lT_chk : chk lT = 0 := by decide
theorem lA_st : stR lA = [.keep 1, .ins ⟨#[120]⟩, .keep 1] := by rw [stR, if_pos lA_chk]; rfl
theorem lB_st : stR lB = [.keep 1, .ins ⟨#[121]⟩, .keep 1] := by rw [stR, if_pos lB_chk]; rfl
theorem lT_st : stR lT = [.keep 1, .ins ⟨#[120]⟩, .keep 2] := by rw [stR, if_pos lT_chk]; rfl
theorem lA_jn : jn (stR lA) = lA := by rw [lA_st]; rfl
theorem lB_jn : jn (stR lB) = lB := by rw [lB_st]; rfl
theorem lT_jn : jn (stR lT) = lT := by rw [lT_st]; rfl
theorem cpl_y : cpl ⟨#[121]⟩ = 1 := by decide
theorem live_trW : trW true lA lB = [⟨1, 1, ⟨#[]⟩⟩, ⟨2, 0, ⟨#[120]⟩⟩, ⟨1, 1, ⟨#[]⟩⟩, ⟨1, 1, ⟨#[]⟩⟩] := by
  rw [trW, lA_jn, lB_jn, lA_st, lB_st]
  have d0 : OpD.does ⟨2, 0, ⟨#[]⟩⟩ = false := by decide
  have d1 : OpD.does ⟨1, 0, ⟨#[]⟩⟩ = false := by decide
  have d2 : OpD.does ⟨2, 0, ⟨#[120]⟩⟩ = true := by decide
  have d3 : OpD.does ⟨1, 1, ⟨#[]⟩⟩ = true := by decide
  simp [spots, reps, tfO, outO, mineO, thrsO, cpl_nil, cpl_y, List.filter_cons, d0, d1, d2, d3]
theorem live_tr : trR true lA lB = (lT, 0) := by
  rw [trR, if_pos lA_chk, if_pos lB_chk, lA_st, lB_st, if_pos (by decide), live_trW]
  have hc : chk [(⟨1, 1, ⟨#[]⟩⟩ : OpD), ⟨2, 0, ⟨#[120]⟩⟩, ⟨1, 1, ⟨#[]⟩⟩, ⟨1, 1, ⟨#[]⟩⟩] = 0 := by decide
  rw [hc, stR, if_pos hc]
  rfl
theorem live_co : coR lB lT = (lC, 0) := by
  have hw : cpW lB lT = [.K, .I 120, .I 121, .K] := by
    rw [cpW, lB_jn, lT_jn, lB_st, lT_st]
    have p1 : pts ⟨#[121]⟩ = [121] := by decide
    have p2 : pts ⟨#[120]⟩ = [120] := by decide
    simp [uw, St.u, p1, p2, cmp, List.replicate]
  rw [coR, if_pos lB_chk, if_pos lT_chk, lB_st, lT_st, if_pos (by decide), hw]
  have hc : chk ([U.K, .I 120, .I 121, .K].map uop) = 0 := by decide
  rw [hc, stR, if_pos hc]
  rfl
theorem live_inv : inR ⟨#[97, 98]⟩ lA = (lV, 0) := by
  have h2 : cpl ⟨#[97, 98]⟩ = 2 := by decide
  have ha : (apR ⟨#[97, 98]⟩ lA).2 = 0 := by
    rw [apR, h2, if_neg (by decide), if_neg (fun h => h lA_chk), lA_st, if_neg (by decide)]
  have hv : invO (pts ⟨#[97, 98]⟩) (stR lA) = lV := by
    have p1 : pts ⟨#[97, 98]⟩ = [97, 98] := by decide
    have c1 : cpl ⟨#[120]⟩ = 1 := by decide
    rw [lA_st, p1]
    simp [invO, c1, lV]
  have hc : chk lV = 0 := by decide
  rw [inR, if_pos ha, hv, hc, stR, if_pos hc]
  rfl

set_option maxHeartbeats 400000 in
theorem lkeep_any (n : Int) (w : World) : Calls Try.prog 29 #[.int .i64 n] w fun e w' => e = .returned (.agg #[.int .i64 1, .int .i64 n, .string ⟨#[]⟩]) ∧ Below w.heap.size w w' := by
  go_enter Try.func29, Try.ntmps29
  go_wp2
  refine bodyPost_ret (results_cell_row rfl _ _ w.heap.size 50 _ (0, 0) _ rfl (heap_alloc_new w _) Try.underlying50 rfl Try.sizeOp) rfl ?_
  exact ⟨rfl, (Below.refl _ _).alloc (Nat.le_refl _) _⟩
set_option maxHeartbeats 400000 in
theorem lins_any (t : ByteArray) (w : World) : Calls Try.prog 30 #[.string t] w fun e w' => e = .returned (.agg #[.int .i64 2, .int .i64 0, .string t]) ∧ Below w.heap.size w w' := by
  go_enter Try.func30, Try.ntmps30
  go_wp2
  refine bodyPost_ret (results_cell_row rfl _ _ w.heap.size 50 _ (0, 0) _ rfl (heap_alloc_new w _) Try.underlying50 rfl Try.sizeOp) rfl ?_
  exact ⟨rfl, (Below.refl _ _).alloc (Nat.le_refl _) _⟩

set_option maxRecDepth 20000 in
set_option maxHeartbeats 4000000 in
theorem live10_any (w : World) : Calls Try.prog 13 #[] w fun e w' => e = .returned (.bool true) ∧ Below w.heap.size w w' := by
  go_enter Try.func13, Try.ntmps13
  go_wp2_with fail
  refine (lkeep_any _ _).mono ?_
  rintro e w1 ⟨rfl, b1⟩
  go_wp2_with fail
  refine (lins_any _ _).mono ?_
  rintro e w2 ⟨rfl, b2⟩
  go_wp2_with fail
  refine (lkeep_any _ _).mono ?_
  rintro e w3 ⟨rfl, b3⟩
  have rA := lit_rdd lA w3
  go_wp2_with fail
  refine (lkeep_any _ _).mono ?_
  rintro e w4 ⟨rfl, b4⟩
  go_wp2_with fail
  refine (lins_any _ _).mono ?_
  rintro e w5 ⟨rfl, b5⟩
  go_wp2_with fail
  refine (lkeep_any _ _).mono ?_
  rintro e w6 ⟨rfl, b6⟩
  have rA6 := ((rA.below b4).below b5).below b6
  have rA7 := rA6.below (grow1 w6 (.cells (ocs lB).toArray 50))
  have rB7 := lit_rdd lB w6
  have hT := transform_any _ _ true lA lB _ rA7 rB7 (by decide) (by decide) (l_in (.inl rfl)) (l_in (.inr (.inl rfl)))
  rw [live_tr] at hT
  go_wp2_with fail
  refine hT.mono ?_
  rintro e w7 ⟨uT, rfl, oT, b7⟩
  clear hT
  have rT := rdd_own oT
  have hC := compose_any _ _ lB lT w7 (rB7.below b7) rT (by decide) (by decide) (l_in (.inr (.inl rfl))) (l_in (.inr (.inr rfl)))
  rw [live_co] at hC
  go_wp2_with fail
  refine hC.mono ?_
  rintro e w8 ⟨uC, rfl, oC, b8⟩
  clear hC
  have hV := invert_any ⟨#[97, 98]⟩ _ lA w8 (by decide) ((rA7.below b7).below b8) (by decide) (l_in (.inl rfl))
  rw [live_inv] at hV
  go_wp2_with fail
  refine hV.mono ?_
  rintro e w9 ⟨uV, rfl, oV, b9⟩
  clear hV
  have rV := rdd_own oV
  go_wp2_with fail
  refine (lkeep_any _ _).mono ?_
  rintro e w10 ⟨rfl, b10⟩
  go_wp2_with fail
  refine (lins_any _ _).mono ?_
  rintro e w11 ⟨rfl, b11⟩
  go_wp2_with fail
  refine (lkeep_any _ _).mono ?_
  rintro e w12 ⟨rfl, b12⟩
  have rT12 := (((((rT.below b8).below b9).below b10).below b11).below b12).below (grow1 w12 (.cells (ocs lT).toArray 50))
  have hS := same_true _ _ lT _ (by decide) rT12 (lit_rdd lT w12)
  go_wp2_with fail
  refine hS.mono ?_
  rintro e w13 ⟨rfl, b13⟩
  clear hS
  go_wp2_with fail
  refine (lkeep_any _ _).mono ?_
  rintro e w14 ⟨rfl, b14⟩
  go_wp2_with fail
  refine (lins_any _ _).mono ?_
  rintro e w15 ⟨rfl, b15⟩
  go_wp2_with fail
  refine (lkeep_any _ _).mono ?_
  rintro e w16 ⟨rfl, b16⟩
  have rC16 := ((((((((rdd_own oC).below b9).below b10).below b11).below b12).below (grow1 w12 (.cells (ocs lT).toArray 50))).below b13).below b14).below b15
  have rC17 := (rC16.below b16).below (grow1 w16 (.cells (ocs lC).toArray 50))
  have hS := same_true _ _ lC _ (by decide) rC17 (lit_rdd lC w16)
  go_wp2_with fail
  refine hS.mono ?_
  rintro e w17 ⟨rfl, b17⟩
  clear hS
  have rV17 := (((((((((rV.below b10).below b11).below b12).below (grow1 w12 (.cells (ocs lT).toArray 50))).below b13).below b14).below b15).below b16).below (grow1 w16 (.cells (ocs lC).toArray 50))).below b17
  obtain ⟨ao, cp, rfl, _, hcs⟩ := rV17
  obtain ⟨b, off, rfl, _, c0, _⟩ := hcs 1 ⟨3, 1, ⟨#[]⟩⟩ rfl
  have e3 : lV.length = 3 := rfl
  rw [e3]
  clear hcs
  go_wp2_with fail
  go_ret
  refine ⟨rfl, ?_⟩
  have q1 := chain (chain (chain (chain (chain (chain (chain (chain b1 b2) b3) (grow1 w3 _)) b4) b5) b6) (grow1 w6 _)) b7
  have q2 := chain (chain (chain (chain (chain q1 b8) b9) b10) b11) b12
  exact chain (chain (chain (chain (chain (chain (chain q2 (grow1 w12 _)) b13) b14) b15) b16) (grow1 w16 _)) b17
end Go.Proofs.Ytphbjbigjpfjfaa

/-
  The contract of the reference's Check.
-/
namespace Go.Proofs.Ytphbjbigjpfjfaa
open Go.ChangeShapes Go.WideShapes Go.ChangeAt Go.RowKit Go.PlainAid

/-- Texts that the reference can take apart. -/
def OpD.Sm (o : OpD) : Prop := o.t.size ≤ 1048576
theorem sm_in {o : OpD} (h : o.Sm) : o.In := by unfold OpD.Sm at h; unfold OpD.In; omega

set_option maxRecDepth 20000 in
set_option maxHeartbeats 8000000 in
theorem refCheck_any (v : Value) (ds : List OpD) (w : World) (hr : RdD w v ds) (hm : ds.length ≤ maxLen) (hi : ∀ o ∈ ds, o.Sm) :
    Calls Try.prog 35 #[v] w fun e w' => e = .returned (.int .i64 (chk ds)) ∧ Below w.heap.size w w' := by
  obtain ⟨ao, cp, rfl, _, hc⟩ := hr
  unfold maxLen at hm
  by_cases hbig : 3000 < ds.length
  · have e1 : chk ds = 90 := by rw [chk, if_pos hbig]
    rw [e1]
    have hb' : (3000 : Int) < (ds.length : Int) := by omega
    clear hc hi
    go_enter Try.func35, Try.ntmps35
    go_wp2
    go_ret
    exact ⟨rfl, Below.refl _ _⟩
  · have hb' : ¬ (3000 : Int) < (ds.length : Int) := by omega
    have HC : Hid (chk ds = if ds.any (fun o => (stOf o).isNone) then 90 else if 1000 < bsum (stl ds) ∨ 1000 < tsum (stl ds) then 91 else 0) := by show _ = _; rw [chk, if_neg hbig]
    have hsk := stl_ok (fun o ho => sm_in (hi o ho))
    go_enter Try.func35, Try.ntmps35
    go_wp2
    go_loopw [3, 4, 5] (fun b t i wr => ∃ k : Nat, k ≤ ds.length ∧ i = .int .i64 (k : Int) ∧ b = .int .i64 (bsum (stl (ds.take k)) : Int) ∧ t = .int .i64 (tsum (stl (ds.take k)) : Int) ∧ Below w.heap.size w wr ∧ Hid (∀ j (h : j < ds.length), j < k → stOf ds[j] ≠ none)) (fun _ _ i _ => ds.length - (intOf i).toNat)
    case atStart => exact ⟨0, by omega, rfl, rfl, rfl, Below.refl _ _, fun j _ hj => by omega⟩
    case round =>
      obtain ⟨k, hk, rfl, rfl, rfl, hbl, hall⟩ := hrel
      have hsz := hbl.size
      have hsb := sum_bd _ (stl_ok (ds := ds.take k) (fun o ho => sm_in (hi o (List.mem_of_mem_take ho))))
      have hkl : (stl (ds.take k)).length ≤ 3000 := by have := stl_len (ds.take k); rw [List.length_take] at this; omega
      have b1 : (bsum (stl (ds.take k)) : Int) ≤ 3000000 := by omega
      have t1 : (tsum (stl (ds.take k)) : Int) ≤ 422212465065984000 := by omega
      clear hsb hkl
      by_cases hlt : k < ds.length
      · have hlt' : (k : Int) < (ds.length : Int) := by omega
        obtain ⟨b, off, rfl, hbb, c0, c1, c2⟩ := hc k ds[k] (by simp [hlt])
        have hBc : ∀ o, wr.cell? ⟨b, o, none⟩ = w.cell? ⟨b, o, none⟩ := fun o => hbl.cell (p := ⟨b, o, none⟩) hbb
        rw [← hBc] at c0 c1 c2
        have hin' := hi ds[k] (List.getElem_mem hlt)
        have HT : Hid (∀ s, stOf ds[k] = some s → stl (ds.take (k + 1)) = stl (ds.take k) ++ [s]) := fun s hs => stl_take hlt hs
        have HN : Hid (stOf ds[k] = none → chk ds = 90) := fun hn => by rw [HC.out, if_pos (any_none hlt hn)]
        have HA : Hid (∀ s, stOf ds[k] = some s → ∀ j (h : j < ds.length), j < k + 1 → stOf ds[j] ≠ none) := fun s hs j h hj => by
          by_cases e : j = k
          · subst e; rw [hs]; simp
          · exact hall.out j h (by omega)
        clear hBc hc hi hall HC hsk
        generalize ds[k] = o at *
        have hL := fun W => refLen_any o.t W hin'
        have hcl := cpl_le o.t
        have hcl1 : cpl o.t ≤ 1048576 := by unfold OpD.Sm at hin'; omega
        cases ho : stOf o with
        | some s =>
          have hop := st_op ho
          have hsok := stOf_ok (sm_in hin') ho
          have HT' : Hid (stl (ds.take (k + 1)) = stl (ds.take k) ++ [s]) := HT.out s ho
          have HA' : Hid (∀ j (h : j < ds.length), j < k + 1 → stOf ds[j] ≠ none) := HA.out s ho
          have HB : Hid (bsum (stl (ds.take (k + 1))) = bsum (stl (ds.take k)) + s.b ∧ tsum (stl (ds.take (k + 1))) = tsum (stl (ds.take k)) + s.c) := by
            constructor
            · rw [HT'.out, bsum_append]; simp [bsum]
            · rw [HT'.out, tsum_append]; simp [tsum]
          subst hop
          clear HN HT HA ho HT' hcl
          generalize bsum (stl (ds.take k)) = B at *
          generalize tsum (stl (ds.take k)) = T at *
          cases s with
          | keep n =>
            simp only [St.op, St.Ok, St.b, St.c] at *
            have n1 : (n : Int) ≤ 1000 := by omega
            have n0 : (1 : Int) ≤ (n : Int) := by omega
            go_wp2_with (go_at_call 33; refine (hL _).mono ?_; rintro e w3 ⟨rfl, hb3⟩; have hbx := (hb3.block wr.heap.size (by simp)).trans (heap_alloc_new wr _); have g0 := cell_of_row _ _ 0 _ _ (0, 0) hbx; have g1 := cell_of_row _ _ 1 _ _ (0, 0) hbx; have g2 := cell_of_row _ _ 2 _ _ (0, 0) hbx; simp at g0 g1 g2; have hB3 := (hbl.alloc hsz _).trans (hb3.mono (by simp; omega)); clear hbx hb3)
            go_roundw
            case rel => exact ⟨k + 1, by omega, by go_num, by rw [HB.out.1]; go_num, by rw [HB.out.2]; go_num, hB3, HA'⟩
            case measure => simp [intOf]; omega
          | rem n =>
            simp only [St.op, St.Ok, St.b, St.c] at *
            have n1 : (n : Int) ≤ 1000 := by omega
            have n0 : (1 : Int) ≤ (n : Int) := by omega
            go_wp2_with (go_at_call 33; refine (hL _).mono ?_; rintro e w3 ⟨rfl, hb3⟩; have hbx := (hb3.block wr.heap.size (by simp)).trans (heap_alloc_new wr _); have g0 := cell_of_row _ _ 0 _ _ (0, 0) hbx; have g1 := cell_of_row _ _ 1 _ _ (0, 0) hbx; have g2 := cell_of_row _ _ 2 _ _ (0, 0) hbx; simp at g0 g1 g2; have hB3 := (hbl.alloc hsz _).trans (hb3.mono (by simp; omega)); clear hbx hb3)
            go_roundw
            case rel => exact ⟨k + 1, by omega, by go_num, by rw [HB.out.1]; go_num, by rw [HB.out.2]; go_num, hB3, HA'⟩
            case measure => simp [intOf]; omega
          | ins t =>
            simp only [St.op, St.Ok, St.b, St.c] at *
            obtain ⟨n, hn⟩ := Int.eq_ofNat_of_zero_le (show 0 ≤ cpl t by omega)
            rw [hn] at hL hcl1 HB
            rw [Int.toNat_natCast] at HB
            have n0 : (1 : Int) ≤ (n : Int) := by omega
            clear hn hsok
            go_wp2_with (go_at_call 33; refine (hL _).mono ?_; rintro e w3 ⟨rfl, hb3⟩; have hbx := (hb3.block wr.heap.size (by simp)).trans (heap_alloc_new wr _); have g0 := cell_of_row _ _ 0 _ _ (0, 0) hbx; have g1 := cell_of_row _ _ 1 _ _ (0, 0) hbx; have g2 := cell_of_row _ _ 2 _ _ (0, 0) hbx; simp at g0 g1 g2; have hB3 := (hbl.alloc hsz _).trans (hb3.mono (by simp; omega)); clear hbx hb3)
            go_roundw
            case rel => exact ⟨k + 1, by omega, by go_num, by rw [HB.out.1]; go_num, by rw [HB.out.2]; go_num, hB3, HA'⟩
            case measure => simp [intOf]; omega
        | none =>
          have HQ : Hid (chk ds = 90) := HN.out ho
          clear HN HT HA hcl
          obtain ⟨K, N, t⟩ := o
          simp only [OpD.Sm] at *
          simp only [stOf] at ho
          generalize bsum (stl (ds.take k)) = B at *
          generalize tsum (stl (ds.take k)) = T at *
          by_cases h : 1 ≤ N ∧ N ≤ 1000 ∧ t.size = 0
          · rw [if_pos h] at ho
            obtain ⟨h1, h2, h3⟩ := h
            have k1 : K ≠ 1 := fun e => by rw [if_pos e] at ho; cases ho
            have k3 : K ≠ 3 := fun e => by rw [if_neg k1, if_pos e] at ho; cases ho
            have k1' : (K == 1) = false := by simpa using k1
            have k3' : (K == 3) = false := by simpa using k3
            have hE := empty_tt h3
            clear ho
            by_cases k2 : K = 2
            · subst k2
              have n0 : (N != 0) = true := by simp; omega
              clear k1 k3 k1' k3'
              go_wp2_with (go_at_call 33; refine (hL _).mono ?_; rintro e w3 ⟨rfl, hb3⟩; have hbx := (hb3.block wr.heap.size (by simp)).trans (heap_alloc_new wr _); have g0 := cell_of_row _ _ 0 _ _ (0, 0) hbx; have g1 := cell_of_row _ _ 1 _ _ (0, 0) hbx; have g2 := cell_of_row _ _ 2 _ _ (0, 0) hbx; simp at g0 g1 g2; have hB3 := (hbl.alloc hsz _).trans (hb3.mono (by simp; omega)); clear hbx hb3)
              go_ret
              exact ⟨by rw [HQ.out]; rfl, hB3⟩
            · have k2' : (K == 2) = false := by simpa using k2
              clear k1 k2 k3
              go_wp2_with (go_at_call 33; refine (hL _).mono ?_; rintro e w3 ⟨rfl, hb3⟩; have hbx := (hb3.block wr.heap.size (by simp)).trans (heap_alloc_new wr _); have g0 := cell_of_row _ _ 0 _ _ (0, 0) hbx; have g1 := cell_of_row _ _ 1 _ _ (0, 0) hbx; have g2 := cell_of_row _ _ 2 _ _ (0, 0) hbx; simp at g0 g1 g2; have hB3 := (hbl.alloc hsz _).trans (hb3.mono (by simp; omega)); clear hbx hb3)
              go_ret
              exact ⟨by rw [HQ.out]; rfl, hB3⟩
          · rw [if_neg h] at ho
            by_cases k2 : K = 2
            · subst k2
              by_cases n0 : N = 0
              · subst n0
                have hp : ¬ 0 < cpl t := fun e => by rw [if_pos ⟨rfl, rfl, e⟩] at ho; cases ho
                clear h ho
                generalize cpl t = c at *
                go_wp2_with (go_at_call 33; refine (hL _).mono ?_; rintro e w3 ⟨rfl, hb3⟩; have hbx := (hb3.block wr.heap.size (by simp)).trans (heap_alloc_new wr _); have g0 := cell_of_row _ _ 0 _ _ (0, 0) hbx; have g1 := cell_of_row _ _ 1 _ _ (0, 0) hbx; have g2 := cell_of_row _ _ 2 _ _ (0, 0) hbx; simp at g0 g1 g2; have hB3 := (hbl.alloc hsz _).trans (hb3.mono (by simp; omega)); clear hbx hb3)
                go_ret
                exact ⟨by rw [HQ.out]; rfl, hB3⟩
              · have n0' : (N != 0) = true := by simpa using n0
                clear h ho n0
                go_wp2_with (go_at_call 33; refine (hL _).mono ?_; rintro e w3 ⟨rfl, hb3⟩; have hbx := (hb3.block wr.heap.size (by simp)).trans (heap_alloc_new wr _); have g0 := cell_of_row _ _ 0 _ _ (0, 0) hbx; have g1 := cell_of_row _ _ 1 _ _ (0, 0) hbx; have g2 := cell_of_row _ _ 2 _ _ (0, 0) hbx; simp at g0 g1 g2; have hB3 := (hbl.alloc hsz _).trans (hb3.mono (by simp; omega)); clear hbx hb3)
                go_ret
                exact ⟨by rw [HQ.out]; rfl, hB3⟩
            · have k2' : (K == 2) = false := by simpa using k2
              clear ho
              by_cases k1 : K = 1
              · subst k1
                clear k2 k2'
                by_cases a1 : 1 ≤ N
                · by_cases a2 : N ≤ 1000
                  · have hE := empty_ff (s := t) (fun q => h ⟨a1, a2, q⟩)
                    clear h
                    go_wp2_with (go_at_call 33; refine (hL _).mono ?_; rintro e w3 ⟨rfl, hb3⟩; have hbx := (hb3.block wr.heap.size (by simp)).trans (heap_alloc_new wr _); have g0 := cell_of_row _ _ 0 _ _ (0, 0) hbx; have g1 := cell_of_row _ _ 1 _ _ (0, 0) hbx; have g2 := cell_of_row _ _ 2 _ _ (0, 0) hbx; simp at g0 g1 g2; have hB3 := (hbl.alloc hsz _).trans (hb3.mono (by simp; omega)); clear hbx hb3)
                    go_ret
                    exact ⟨by rw [HQ.out]; rfl, hB3⟩
                  · clear h
                    go_wp2_with (go_at_call 33; refine (hL _).mono ?_; rintro e w3 ⟨rfl, hb3⟩; have hbx := (hb3.block wr.heap.size (by simp)).trans (heap_alloc_new wr _); have g0 := cell_of_row _ _ 0 _ _ (0, 0) hbx; have g1 := cell_of_row _ _ 1 _ _ (0, 0) hbx; have g2 := cell_of_row _ _ 2 _ _ (0, 0) hbx; simp at g0 g1 g2; have hB3 := (hbl.alloc hsz _).trans (hb3.mono (by simp; omega)); clear hbx hb3)
                    go_ret
                    exact ⟨by rw [HQ.out]; rfl, hB3⟩
                · clear h
                  go_wp2_with (go_at_call 33; refine (hL _).mono ?_; rintro e w3 ⟨rfl, hb3⟩; have hbx := (hb3.block wr.heap.size (by simp)).trans (heap_alloc_new wr _); have g0 := cell_of_row _ _ 0 _ _ (0, 0) hbx; have g1 := cell_of_row _ _ 1 _ _ (0, 0) hbx; have g2 := cell_of_row _ _ 2 _ _ (0, 0) hbx; simp at g0 g1 g2; have hB3 := (hbl.alloc hsz _).trans (hb3.mono (by simp; omega)); clear hbx hb3)
                  go_ret
                  exact ⟨by rw [HQ.out]; rfl, hB3⟩
              · have k1' : (K == 1) = false := by simpa using k1
                by_cases k3 : K = 3
                · subst k3
                  clear k1 k1' k2 k2'
                  by_cases a1 : 1 ≤ N
                  · by_cases a2 : N ≤ 1000
                    · have hE := empty_ff (s := t) (fun q => h ⟨a1, a2, q⟩)
                      clear h
                      go_wp2_with (go_at_call 33; refine (hL _).mono ?_; rintro e w3 ⟨rfl, hb3⟩; have hbx := (hb3.block wr.heap.size (by simp)).trans (heap_alloc_new wr _); have g0 := cell_of_row _ _ 0 _ _ (0, 0) hbx; have g1 := cell_of_row _ _ 1 _ _ (0, 0) hbx; have g2 := cell_of_row _ _ 2 _ _ (0, 0) hbx; simp at g0 g1 g2; have hB3 := (hbl.alloc hsz _).trans (hb3.mono (by simp; omega)); clear hbx hb3)
                      go_ret
                      exact ⟨by rw [HQ.out]; rfl, hB3⟩
                    · clear h
                      go_wp2_with (go_at_call 33; refine (hL _).mono ?_; rintro e w3 ⟨rfl, hb3⟩; have hbx := (hb3.block wr.heap.size (by simp)).trans (heap_alloc_new wr _); have g0 := cell_of_row _ _ 0 _ _ (0, 0) hbx; have g1 := cell_of_row _ _ 1 _ _ (0, 0) hbx; have g2 := cell_of_row _ _ 2 _ _ (0, 0) hbx; simp at g0 g1 g2; have hB3 := (hbl.alloc hsz _).trans (hb3.mono (by simp; omega)); clear hbx hb3)
                      go_ret
                      exact ⟨by rw [HQ.out]; rfl, hB3⟩
                  · clear h
                    go_wp2_with (go_at_call 33; refine (hL _).mono ?_; rintro e w3 ⟨rfl, hb3⟩; have hbx := (hb3.block wr.heap.size (by simp)).trans (heap_alloc_new wr _); have g0 := cell_of_row _ _ 0 _ _ (0, 0) hbx; have g1 := cell_of_row _ _ 1 _ _ (0, 0) hbx; have g2 := cell_of_row _ _ 2 _ _ (0, 0) hbx; simp at g0 g1 g2; have hB3 := (hbl.alloc hsz _).trans (hb3.mono (by simp; omega)); clear hbx hb3)
                    go_ret
                    exact ⟨by rw [HQ.out]; rfl, hB3⟩
                · have k3' : (K == 3) = false := by simpa using k3
                  clear h k1 k2 k3
                  go_wp2_with (go_at_call 33; refine (hL _).mono ?_; rintro e w3 ⟨rfl, hb3⟩; have hbx := (hb3.block wr.heap.size (by simp)).trans (heap_alloc_new wr _); have g0 := cell_of_row _ _ 0 _ _ (0, 0) hbx; have g1 := cell_of_row _ _ 1 _ _ (0, 0) hbx; have g2 := cell_of_row _ _ 2 _ _ (0, 0) hbx; simp at g0 g1 g2; have hB3 := (hbl.alloc hsz _).trans (hb3.mono (by simp; omega)); clear hbx hb3)
                  go_ret
                  exact ⟨by rw [HQ.out]; rfl, hB3⟩
      · have e : k = ds.length := by omega
        subst e
        rw [List.take_length] at *
        have hany : ds.any (fun o => (stOf o).isNone) = false := by
          rw [List.any_eq_false]
          intro o ho
          obtain ⟨j, hj, rfl⟩ := List.getElem_of_mem ho
          have := hall.out j hj hj
          cases hh : stOf ds[j] with
          | none => exact absurd hh this
          | some s => simp
        have HC2 : Hid (chk ds = if 1000 < bsum (stl ds) ∨ 1000 < tsum (stl ds) then 91 else 0) := by show _ = _; rw [HC.out, hany]; rfl
        clear hall HC hc hi hany hsk
        generalize bsum (stl ds) = B at *
        generalize tsum (stl ds) = T at *
        by_cases c1 : (1000 : Int) < (B : Int)
        · have HQ : Hid (chk ds = 91) := by show _ = _; rw [HC2.out, if_pos (.inl (by omega))]
          clear HC2
          go_wp2
          go_ret
          exact ⟨by rw [HQ.out]; rfl, hbl⟩
        · by_cases c2 : (1000 : Int) < (T : Int)
          · have HQ : Hid (chk ds = 91) := by show _ = _; rw [HC2.out, if_pos (.inr (by omega))]
            clear HC2
            go_wp2
            go_ret
            exact ⟨by rw [HQ.out]; rfl, hbl⟩
          · have HQ : Hid (chk ds = 0) := by show _ = _; rw [HC2.out, if_neg (by omega)]
            clear HC2
            go_wp2
            go_ret
            exact ⟨by rw [HQ.out]; rfl, hbl⟩
end Go.Proofs.Ytphbjbigjpfjfaa

/-
  The contracts of the reference's Base, Target and Apply.
-/
namespace Go.Proofs.Ytphbjbigjpfjfaa
open Go.ChangeShapes Go.WideShapes Go.ChangeAt Go.RowKit Go.PlainAid

theorem op_n (s : St) : s.op.n = (s.b : Int) := by cases s <;> rfl

set_option maxRecDepth 20000 in
set_option maxHeartbeats 2000000 in
theorem refBase_any (v : Value) (ds : List OpD) (w : World) (hr : RdD w v ds) (hm : ds.length ≤ maxLen) (hi : ∀ o ∈ ds, o.Sm) :
    Calls Try.prog 26 #[v] w fun e w' => e = .returned (.tuple #[.int .i64 (bsum (stR ds) : Int), .int .i64 (chk ds)]) ∧ Below w.heap.size w w' := by
  have hC := refCheck_any v ds w hr hm hi
  by_cases c : chk ds = 0
  · have hbd := stR_bd ds
    have hln := stR_len ds
    have hds := stR_op c
    rw [c] at hC ⊢
    generalize stR ds = l at *
    subst hds
    obtain ⟨ao, cp, rfl, _, hc⟩ := hr
    rw [List.length_map] at *
    clear hi hm c
    go_enter Try.func26, Try.ntmps26
    go_wp2_with (go_at_call 35; refine hC.mono ?_; rintro e w1 ⟨rfl, hb1⟩)
    clear hC
    go_loopw [5, 6] (fun b i wr => ∃ k : Nat, k ≤ l.length ∧ i = .int .i64 (k : Int) ∧ b = .int .i64 (bsum (l.take k) : Int) ∧ Below w.heap.size w wr) (fun _ i _ => l.length - (intOf i).toNat)
    case atStart => exact ⟨0, by omega, rfl, rfl, hb1⟩
    case round =>
      obtain ⟨k, hk, rfl, rfl, hbl⟩ := hrel
      have hst := (sum_take l k).1
      have b1 : (bsum (l.take k) : Int) ≤ 1000 := by omega
      by_cases hlt : k < l.length
      · have hlt' : (k : Int) < (l.length : Int) := by omega
        have HB : Hid (bsum (l.take (k + 1)) = bsum (l.take k) + (l[k]).b) := bsum_take l k hlt
        have hst2 := (sum_take l (k + 1)).1
        have n1 : ((l[k]).b : Int) ≤ 1000 := by have := HB.out; omega
        obtain ⟨b, off, rfl, hbb, c0, c1, c2⟩ := hc k (l[k]).op (by simp [hlt])
        have hBc : ∀ o, wr.cell? ⟨b, o, none⟩ = w.cell? ⟨b, o, none⟩ := fun o => hbl.cell (p := ⟨b, o, none⟩) hbb
        rw [← hBc] at c0 c1 c2
        rw [op_n] at c1
        clear hBc hc hst hst2 c0 c2
        generalize (l[k]).b = N at *
        generalize bsum (l.take k) = B at *
        go_wp2
        go_roundw
        case rel => exact ⟨k + 1, by omega, by go_num, by rw [HB.out]; go_num, hbl⟩
        case measure => simp [intOf]; omega
      · have e : k = l.length := by omega
        subst e
        rw [List.take_length]
        clear hc hst
        go_wp2
        go_ret2
        exact ⟨rfl, hbl⟩
  · have hne : (chk ds != 0) = true := by simpa using c
    have e0 : bsum (stR ds) = 0 := by rw [chk_no ds c]; rfl
    rw [e0]
    generalize chk ds = x at *
    go_enter Try.func26, Try.ntmps26
    go_wp2_with (go_at_call 35; refine hC.mono ?_; rintro e w1 ⟨rfl, hb1⟩)
    go_ret2
    exact ⟨rfl, hb1⟩

set_option maxRecDepth 20000 in
theorem slice_mid (b o len cp lo n : Nat) (hn : lo + n ≤ len) (hc : len ≤ cp) (h0 : 0 < n) (W : World) :
    (Instr.slice 64 (.slice (some ⟨b, o, none⟩) len cp) (some (.int .i64 (lo : Int))) (some (.int .i64 ((lo : Int) + (n : Int)))) none).run Try.prog W = .ok (.slice (some ⟨b, o + lo, none⟩) n (cp - lo)) W := by
  rw [run_slice_lh (P := Try.prog) W 64 (some ⟨b, o, none⟩) len cp Try.underlying64 .i64 .i64 (lo : Int) ((lo : Int) + (n : Int)) (by omega) (by omega) (by omega)]
  have e : Try.prog.elem 64 = 3 := by kernel_rfl
  rw [e, sizeInt]
  have e2 : ((lo : Int) + (n : Int)).toNat = lo + n := by omega
  simp only [Result.andThen, sliced, Int.toNat_natCast, Option.map_some, Nat.mul_one, addr_add, e2]
  rw [if_neg (by omega), show lo + n - lo = n by omega]

end Go.Proofs.Ytphbjbigjpfjfaa

/-
  The contracts of the reference's Target and put.
-/
namespace Go.Proofs.Ytphbjbigjpfjfaa
open Go.ChangeShapes Go.WideShapes Go.ChangeAt Go.RowKit Go.PlainAid

theorem Try.mixedR : Try.prog.follows .mixedOrders = true := by kernel_rfl
theorem region_tailR {P : Program} {id : Nat} {Q : Exit → Act → World → Prop} {a : Act} {w : World} {l : List Oper} (n : Nat) (hm : P.follows .mixedOrders = true) (hB : Region.lexTailB .any l.toArray n = true)
    (h : wpStill P l.toArray w.drew (fun a' => wpList P l.toArray Q (l.drop n) a' w.drew) (l.take n) a) : (Code.region id l.toArray true).wp P Q a w :=
  wp_region_still_tail n hm hB h

set_option maxRecDepth 20000 in
set_option maxHeartbeats 2000000 in
theorem refTarget_any (v : Value) (ds : List OpD) (w : World) (hr : RdD w v ds) (hm : ds.length ≤ maxLen) (hi : ∀ o ∈ ds, o.Sm) :
    Calls Try.prog 25 #[v] w fun e w' => e = .returned (.tuple #[.int .i64 (tsum (stR ds) : Int), .int .i64 (chk ds)]) ∧ Below w.heap.size w w' := by
  have hC := refCheck_any v ds w hr hm hi
  by_cases c : chk ds = 0
  · have hbd := stR_bd ds
    have hln := stR_len ds
    have hds := stR_op c
    have hok := stR_ok (fun o ho => sm_in (hi o ho))
    rw [c] at hC ⊢
    generalize stR ds = l at *
    subst hds
    obtain ⟨ao, cp, rfl, _, hc⟩ := hr
    rw [List.length_map] at *
    clear hm c
    go_enter Try.func25, Try.ntmps25
    go_wp2_with (go_at_call 35; refine hC.mono ?_; rintro e w1 ⟨rfl, hb1⟩)
    clear hC
    go_loopw [5, 6] (fun b i wr => ∃ k : Nat, k ≤ l.length ∧ i = .int .i64 (k : Int) ∧ b = .int .i64 (tsum (l.take k) : Int) ∧ Below w.heap.size w wr) (fun _ i _ => l.length - (intOf i).toNat)
    case atStart => exact ⟨0, by omega, rfl, rfl, hb1⟩
    case round =>
      obtain ⟨k, hk, rfl, rfl, hbl⟩ := hrel
      have hst := (sum_take l k).2
      have hsz := hbl.size
      have b1 : (tsum (l.take k) : Int) ≤ 1000 := by omega
      by_cases hlt : k < l.length
      · have hlt' : (k : Int) < (l.length : Int) := by omega
        have HB : Hid (tsum (l.take (k + 1)) = tsum (l.take k) + (l[k]).c) := tsum_take l k hlt
        have hsk := hok l[k] (List.getElem_mem hlt)
        have hsm := hi (l[k]).op (List.mem_map.2 ⟨_, List.getElem_mem hlt, rfl⟩)
        obtain ⟨b, off, rfl, hbb, c0, c1, c2⟩ := hc k (l[k]).op (by simp [hlt])
        have hBc : ∀ o, wr.cell? ⟨b, o, none⟩ = w.cell? ⟨b, o, none⟩ := fun o => hbl.cell (p := ⟨b, o, none⟩) hbb
        rw [← hBc] at c0 c1 c2
        clear hBc hc hst hi hok
        generalize l[k] = s at *
        generalize tsum (l.take k) = B at *
        cases s with
        | keep n =>
          simp only [St.op, St.Ok, St.c] at *
          have n1 : (n : Int) ≤ 1000 := by omega
          go_wp2
          go_roundw
          case rel => exact ⟨k + 1, by omega, by go_num, by rw [HB.out]; go_num, hbl⟩
          case measure => simp [intOf]; omega
        | rem n =>
          simp only [St.op, St.Ok, St.c] at *
          go_wp2
          go_roundw
          case rel => exact ⟨k + 1, by omega, by go_num, by rw [HB.out]; go_num, hbl⟩
          case measure => simp [intOf]; omega
        | ins t =>
          simp only [St.op, St.Ok, St.c, OpD.Sm] at *
          have hL := fun W => refLen_any t W hsm
          have hcl := cpl_le t
          obtain ⟨n, hn⟩ := Int.eq_ofNat_of_zero_le (show 0 ≤ cpl t by omega)
          rw [hn] at hL hcl HB
          rw [Int.toNat_natCast] at HB
          have n1 : (n : Int) ≤ 1048576 := by omega
          clear hn hsk hcl
          go_wp2_with (go_at_call 33; refine (hL _).mono ?_; rintro e w3 ⟨rfl, hb3⟩)
          go_roundw
          case rel => exact ⟨k + 1, by omega, by go_num, by rw [HB.out]; go_num, hbl.trans (hb3.mono hsz)⟩
          case measure => simp [intOf]; omega
      · have e : k = l.length := by omega
        subst e
        rw [List.take_length]
        clear hc hst hi hok
        go_wp2
        go_ret2
        exact ⟨rfl, hbl⟩
  · have hne : (chk ds != 0) = true := by simpa using c
    have e0 : tsum (stR ds) = 0 := by rw [chk_no ds c]; rfl
    rw [e0]
    generalize chk ds = x at *
    go_enter Try.func25, Try.ntmps25
    go_wp2_with (go_at_call 35; refine hC.mono ?_; rintro e w1 ⟨rfl, hb1⟩)
    go_ret2
    exact ⟨rfl, hb1⟩

set_option maxRecDepth 20000 in
set_option maxHeartbeats 1000000 in
/-- put behind nothing. -/
theorem put_nil (base : Nat) (d : Value) (x : OpD) (w : World) (hb : base ≤ w.heap.size) (ho : w.ownsRow base 50 3 d 0 (ocs [])) :
    Calls Try.prog 54 #[d, .agg #[.int .i64 x.k, .int .i64 x.n, .string x.t]] w fun e w' => ∃ u, e = .returned u ∧ w'.ownsRow base 50 3 u 1 (ocs [x]) ∧ Below base w w' := by
  obtain ⟨i0, hin, hz0, hz1, hz2⟩ := info_parts Try.infoOp
  obtain ⟨ao, cp, rfl⟩ := own_form ho
  go_enter Try.func54, Try.ntmps54
  go_wp2
  go_quiet (fail)
  go_wp2_with (at_builtin; refine wpList_append_own _ rfl (.tmp 53) (.tmp 55) 22 rfl base 50 i0 (.agg #[.int .i64 0, .int .i64 0, .string ⟨#[]⟩]) 3 32 Try.underlying22 hin hz0 hz1 hz2 rfl (by decide) _ _ _ rfl ((ho.alloc _).alloc _) ⟨_, 0, none⟩ 1 1 [.int .i64 x.k, .int .i64 x.n, .string x.t] rfl rfl (many_new2 _ _ _ _) (three_one _ _ _) (by unfold maxLen; omega) (by omega) (by simp; omega) ?_; intro v4 w4 ho4 hg4 _)
  have R1 := own_op (L := []) (o := x) ho4 rfl
  have R2 : Below base w w4 := ((below_drewN ((Below.refl _ w).alloc hb _) _).alloc (by simp; omega) _).grown hg4 (by simp; omega) (fun k hk => (ho.lt k hk).1)
  go_ret
  exact ⟨_, rfl, R1, R2⟩

theorem last_cells {w : World} {base g m cap : Nat} {L : List OpD} {y : OpD} (ho : w.ownsRow base 50 3 (.slice (some ⟨g, 0, none⟩) (m + 1) cap) (m + 1) (ocs (L ++ [y]))) (hm : L.length = m) :
    w.cell? ⟨g, m * 3, none⟩ = some (.int .i64 y.k) ∧ w.cell? ⟨g, m * 3 + 1, none⟩ = some (.int .i64 y.n) ∧ w.cell? ⟨g, m * 3 + 2, none⟩ = some (.string y.t) := by
  subst hm
  obtain ⟨c0, c1, c2⟩ := ocs_at (L ++ [y]) L.length y (by simp)
  refine ⟨?_, ?_, ?_⟩
  · rw [ho.cellAt _ (by omega)]; exact c0
  · rw [ho.cellAt _ (by omega)]; exact c1
  · rw [ho.cellAt _ (by omega)]; exact c2
theorem own_some {w : World} {base e z n : Nat} {v : Value} {xs : List Value} (h : w.ownsRow base e z v n xs) (hn : 0 < n) : ∃ g cap, v = .slice (some ⟨g, 0, none⟩) n cap := by
  rcases h.2 with ⟨_, h0⟩ | ⟨g, cap, cur, rfl, _⟩
  · omega
  · exact ⟨g, cap, rfl⟩

set_option maxRecDepth 20000 in
set_option maxHeartbeats 1000000 in
/-- put behind an operation of another kind. -/
theorem put_new (base : Nat) (d : Value) (L : List OpD) (y x : OpD) (w : World) (hb : base ≤ w.heap.size) (hl : L.length ≤ 100000) (ho : w.ownsRow base 50 3 d (L ++ [y]).length (ocs (L ++ [y]))) (hk : y.k ≠ x.k) :
    Calls Try.prog 54 #[d, .agg #[.int .i64 x.k, .int .i64 x.n, .string x.t]] w fun e w' => ∃ u, e = .returned u ∧ w'.ownsRow base 50 3 u (L ++ [y] ++ [x]).length (ocs (L ++ [y] ++ [x])) ∧ Below base w w' := by
  obtain ⟨i0, hin, hz0, hz1, hz2⟩ := info_parts Try.infoOp
  obtain ⟨m, hm⟩ : ∃ m, L.length = m := ⟨_, rfl⟩
  have hlen : (L ++ [y]).length = m + 1 := by simp [hm]
  rw [hlen] at ho
  obtain ⟨g, cap, rfl⟩ := own_some ho (by omega)
  have hoA := ho.alloc (.cells #[.int .i64 x.k, .int .i64 x.n, .string x.t] 50)
  obtain ⟨c0, c1, c2⟩ := last_cells hoA hm
  have hne : (y.k == x.k) = false := by simpa using hk
  have hm1 : m ≤ 100000 := by omega
  have HL : Hid ((L ++ [y]).length = m + 1) := hlen
  clear hk hm hlen hl c1 c2
  go_enter Try.func54, Try.ntmps54
  go_wp2
  go_quiet (fail)
  clear c0
  go_wp2_with (at_builtin; refine wpList_append_own _ rfl (.tmp 53) (.tmp 55) 22 rfl base 50 i0 (.agg #[.int .i64 0, .int .i64 0, .string ⟨#[]⟩]) 3 32 Try.underlying22 hin hz0 hz1 hz2 rfl (by decide) _ _ _ rfl ((ho.alloc _).alloc _) ⟨_, 0, none⟩ 1 1 [.int .i64 x.k, .int .i64 x.n, .string x.t] rfl rfl (many_new2 _ _ _ _) (three_one _ _ _) (by unfold maxLen; omega) (by omega) (by simp; omega) ?_; intro v4 w4 ho4 hg4 _)
  have R1 := own_op (L := L ++ [y]) (o := x) ho4 HL.out
  have R2 : Below base w w4 := ((below_drewN ((Below.refl _ w).alloc hb _) _).alloc (by simp; omega) _).grown hg4 (by simp; omega) (fun k hk => (ho.lt k hk).1)
  go_ret
  exact ⟨_, rfl, R1, R2⟩

theorem ocs_set (L : List OpD) (y : OpD) (N : Int) (t : ByteArray) : ((ocs (L ++ [y])).set (L.length * 3 + 1) (.int .i64 N)).set (L.length * 3 + 2) (.string t) = ocs (L ++ [⟨y.k, N, t⟩]) := by
  rw [ocs_append, ocs_append, ocs_one, ocs_one]
  have e := ocs_length L
  rw [List.set_append_right _ _ (by omega), List.set_append_right _ _ (by omega), e]
  simp

def kOp (N : Nat) : OpD := ⟨1, (N : Int), ⟨#[]⟩⟩
set_option maxRecDepth 20000 in
set_option maxHeartbeats 2000000 in
/-- put of a keep behind a keep. -/
theorem put_join (base : Nat) (d : Value) (L : List OpD) (N : Nat) (w : World) (hb : base ≤ w.heap.size) (hl : L.length ≤ 100000) (hN : N ≤ 100000) (ho : w.ownsRow base 50 3 d (L ++ [kOp N]).length (ocs (L ++ [kOp N]))) :
    Calls Try.prog 54 #[d, .agg #[.int .i64 1, .int .i64 1, .string ⟨#[]⟩]] w fun e w' => ∃ u, e = .returned u ∧ w'.ownsRow base 50 3 u (L ++ [kOp (N + 1)]).length (ocs (L ++ [kOp (N + 1)])) ∧ Below base w w' := by
  obtain ⟨m, hm⟩ : ∃ m, L.length = m := ⟨_, rfl⟩
  have hlen : (L ++ [kOp N]).length = m + 1 := by simp [hm]
  rw [hlen] at ho
  obtain ⟨g, cap, rfl⟩ := own_some ho (by omega)
  have hoA := ho.alloc (.cells #[.int .i64 1, .int .i64 1, .string ⟨#[]⟩] 50)
  obtain ⟨c0, c1, c2⟩ := last_cells hoA hm
  simp only [kOp] at c0 c1 c2
  have hm1 : m ≤ 100000 := by omega
  have hN1 : (N : Int) ≤ 100000 := by omega
  have ha : ∀ W : World, (Op.stringOp .add (⟨#[]⟩ : ByteArray) ⟨#[]⟩).run Try.prog W = .ok (.string ⟨#[]⟩) W := fun W => pk.add_mk [] [] W (by simp)
  clear hl
  go_enter Try.func54, Try.ntmps54
  go_wp2
  go_quiet (fail)
  go_wp2
  have hoB : ((w.alloc (.cells #[.int .i64 1, .int .i64 1, .string ⟨#[]⟩] 50)).drewN nq).ownsRow base 50 3 (.slice (some ⟨g, 0, none⟩) (m + 1) cap) (m + 1) (ocs (L ++ [kOp N])) := hoA
  have hbx : ((w.alloc (.cells #[.int .i64 1, .int .i64 1, .string ⟨#[]⟩] 50)).drewN nq).heap[w.heap.size]? = some (.cells #[.int .i64 1, .int .i64 1, .string ⟨#[]⟩] 50) := heap_alloc_new w _
  have hBB : Below base w ((w.alloc (.cells #[.int .i64 1, .int .i64 1, .string ⟨#[]⟩] 50)).drewN nq) := below_drewN ((Below.refl _ w).alloc hb _) _
  have hbs : base ≤ ((w.alloc (.cells #[.int .i64 1, .int .i64 1, .string ⟨#[]⟩] 50)).drewN nq).heap.size := by show base ≤ (w.alloc _).heap.size; simp; omega
  clear c0 c1 c2 hoA
  generalize (w.alloc (.cells #[.int .i64 1, .int .i64 1, .string ⟨#[]⟩] 50)).drewN nq = W0 at *
  obtain ⟨c0, c1, c2⟩ := last_cells hoB hm
  simp only [kOp] at c0 c1 c2
  have b1 := cell_of_row _ _ 1 _ _ (0, 0) hbx
  have b2 := cell_of_row _ _ 2 _ _ (0, 0) hbx
  simp at b1 b2
  have f1 := hoB.frozenAt (m * 3 + 1)
  have hwm : IntKind.i64.wrap (m : Int) = (m : Int) := wraps_i64 _ (by omega) (by omega)
  have hmm : (m : Int) < (m : Int) + 1 := by omega
  have hwN : IntKind.i64.wrap ((N : Int) + 1) = (N : Int) + 1 := wraps_i64 _ (by omega) (by omega)
  refine region_tailR 16 Try.mixedR (by kernel_rfl) ?_
  simp only [List.take_succ_cons, List.take_zero, List.drop_succ_cons, List.drop_zero]
  iterate 16 still_step
  refine wpStill_nil ?_
  go_wp2
  have hoC : (W0.setCell ⟨g, m * 3 + 1, none⟩ (.int .i64 ((N : Int) + 1))).drew.ownsRow base 50 3 (.slice (some ⟨g, 0, none⟩) (m + 1) cap) (m + 1) ((ocs (L ++ [kOp N])).set (m * 3 + 1) (.int .i64 ((N : Int) + 1))) := (hoB.stored (m * 3 + 1) (.int .i64 ((N : Int) + 1))).1
  have hbd : some w.heap.size ≠ (some g : Option Nat) := fun e => by
    have h1 := ho.lt g rfl
    simp at e
    omega
  have hgg := hoB.lt g rfl
  have hbxC : (W0.setCell ⟨g, m * 3 + 1, none⟩ (.int .i64 ((N : Int) + 1))).drew.heap[w.heap.size]? = some (.cells #[.int .i64 1, .int .i64 1, .string ⟨#[]⟩] 50) := by
    rw [← hbx]
    exact (hoB.stored (m * 3 + 1) (.int .i64 ((N : Int) + 1))).2.block _ (heap_lt hbx) hbd
  have hBC : Below base w (W0.setCell ⟨g, m * 3 + 1, none⟩ (.int .i64 ((N : Int) + 1))).drew := (below_set hBB hgg.1 hbs).drew
  have hsC : (W0.setCell ⟨g, m * 3 + 1, none⟩ (.int .i64 ((N : Int) + 1))).drew.heap.size = W0.heap.size := by simp [World.setCell]
  have c2C : (W0.setCell ⟨g, m * 3 + 1, none⟩ (.int .i64 ((N : Int) + 1))).drew.cell? ⟨g, m * 3 + 2, none⟩ = some (.string ⟨#[]⟩) := by
    rw [hoC.cellAt _ (by omega), List.getElem?_set_ne (by omega)]
    have := (ocs_at (L ++ [kOp N]) m (kOp N) (by rw [← hm]; simp)).2.2
    exact this
  have hbsC : base ≤ (W0.setCell ⟨g, m * 3 + 1, none⟩ (.int .i64 ((N : Int) + 1))).drew.heap.size := by rw [hsC]; exact hbs
  clear c0 c1 c2 b1 b2 f1 hoB hbx hBB hsC hwN
  generalize (W0.setCell ⟨g, m * 3 + 1, none⟩ (.int .i64 ((N : Int) + 1))).drew = W1 at *
  have b2 := cell_of_row _ _ 2 _ _ (0, 0) hbxC
  simp at b2
  have f2 := hoC.frozenAt (m * 3 + 2)
  refine region_tailR 16 Try.mixedR (by kernel_rfl) ?_
  simp only [List.take_succ_cons, List.take_zero, List.drop_succ_cons, List.drop_zero]
  iterate 16 still_step
  refine wpStill_nil ?_
  go_wp2
  have hoD := (hoC.stored (m * 3 + 2) (.string ⟨#[]⟩)).1
  rw [← hm, ocs_set] at hoD
  have hBD := below_set (j := m * 3 + 2) (x := .string ⟨#[]⟩) hBC hgg.1 hbsC
  have e1 : (L ++ [kOp (N + 1)]).length = m + 1 := by simp [hm]
  go_ret
  refine ⟨_, rfl, ?_, hBD.drew⟩
  rw [e1, ← hm]
  exact hoD
end Go.Proofs.Ytphbjbigjpfjfaa

/-
  The contract of the reference's Built.
-/
namespace Go.Proofs.Ytphbjbigjpfjfaa
open Go.ChangeShapes Go.WideShapes Go.ChangeAt Go.RowKit Go.PlainAid

/-- How put may go. -/
inductive PutTo : List OpD → OpD → List OpD → Prop
  | nil (x : OpD) : PutTo [] x [x]
  | new (L : List OpD) (y x : OpD) : y.k ≠ x.k → PutTo (L ++ [y]) x (L ++ [y] ++ [x])
  | join (L : List OpD) (N : Nat) : PutTo (L ++ [kOp N]) ⟨1, 1, ⟨#[]⟩⟩ (L ++ [kOp (N + 1)])
theorem put_any (base : Nat) (d : Value) (D : List OpD) (x : OpD) (D' : List OpD) (w : World) (hb : base ≤ w.heap.size) (hl : D.length ≤ 100000) (hN : ∀ o ∈ D, o.n ≤ 100000) (ho : w.ownsRow base 50 3 d D.length (ocs D)) (hp : PutTo D x D') :
    Calls Try.prog 54 #[d, .agg #[.int .i64 x.k, .int .i64 x.n, .string x.t]] w fun e w' => ∃ u, e = .returned u ∧ w'.ownsRow base 50 3 u D'.length (ocs D') ∧ Below base w w' := by
  cases hp with
  | nil => exact put_nil base d x w hb ho
  | new L y _ h => exact put_new base d L y x w hb (by simp at hl; omega) ho h
  | join L N => exact put_join base d L N w hb (by simp at hl; omega) (by have := hN (kOp N) (by simp); simp [kOp] at this; omega) ho

/-- What Built has written: all but what has changed since the last keep. -/
def JU.outP (τ : JU) : List PS := τ.D ++ (if 0 < τ.kept then [.keep τ.kept] else [])
/-- A state that joining comes to. -/
structure JU.Ok (τ : JU) : Prop where
  z : τ.kept = 0 → τ.D = []
  d : ∀ D y, τ.D = D ++ [y] → y.op.k ≠ 1
theorem flush_last (k : Nat) (p : List Int) (g : Nat) (h : 0 < p.length ∨ 0 < g) (A : List PS) : ∃ D y, A ++ flushP k p g = D ++ [y] ∧ y.op.k ≠ 1 := by
  by_cases hg : 0 < g
  · exact ⟨A ++ ((if 0 < k then [.keep k] else []) ++ (if 0 < p.length then [.ins p] else [])), .rem g, by simp [flushP, hg], show (3 : Int) ≠ 1 by decide⟩
  · have hp : 0 < p.length := by omega
    exact ⟨A ++ (if 0 < k then [.keep k] else []), .ins p, by simp [flushP, hg, hp], show (2 : Int) ≠ 1 by decide⟩
theorem snoc_inj {α : Type _} {a b : List α} {x y : α} (h : a ++ [x] = b ++ [y]) : x = y := by
  have := congrArg List.getLast? h
  simpa using this
theorem ok_add {τ : JU} (h : τ.Ok) (x : U) : (τ.add x).Ok := by
  cases x with
  | K =>
    simp only [JU.add]
    split
    · rename_i hc
      refine ⟨fun h => by simp at h, fun D y e => ?_⟩
      obtain ⟨D', y', e', hy⟩ := flush_last τ.kept τ.put τ.gone hc τ.D
      simp only at e
      rw [e'] at e
      rw [← snoc_inj e]
      exact hy
    · exact ⟨fun h => by simp at h, h.d⟩
  | R => exact ⟨h.z, h.d⟩
  | I z => exact ⟨h.z, h.d⟩
theorem ok_ju : ∀ (w : List U) {τ : JU}, τ.Ok → (ju τ w).Ok
  | [], _, h => h
  | x :: w, _, h => by rw [ju_cons]; exact ok_ju w (ok_add h x)

/-- The word of a form's gaps from a on: what is put in, and whether the code point behind goes. -/
def gapW (ins : List ByteArray) (gone : List Bool) : Nat → List U
  | 0 => []
  | i + 1 => gapW ins gone i ++ ((pts (ins.getD i ⟨#[]⟩)).map .I ++ [if gone.getD i false then .R else .K])
def formW (ins : List ByteArray) (gone : List Bool) : List U := gapW ins gone gone.length ++ (pts (ins.getD gone.length ⟨#[]⟩)).map .I

/-- put of what changed, behind a keep or nothing. -/
theorem putTo_ins {τ : JU} (h : τ.Ok) (x : OpD) (hx : x.k ≠ 1) : PutTo (τ.outP.map PS.op) x (τ.outP.map PS.op ++ [x]) := by
  unfold JU.outP
  by_cases h0 : 0 < τ.kept
  · rw [if_pos h0, List.map_append, List.map_cons, List.map_nil]
    exact .new _ _ _ (fun e => hx e.symm)
  · have hD : τ.D = [] := h.z (by omega)
    rw [if_neg h0, hD]
    exact .nil x
theorem baseU_gap (ins : List ByteArray) (gone : List Bool) : ∀ i, baseU (gapW ins gone i) = i
  | 0 => rfl
  | i + 1 => by
    rw [gapW, baseU_append, baseU_append, baseU_gap ins gone i, baseU_I]
    split <;> simp [baseU]
theorem ju_bd (w : List U) : (ju ⟨[], 0, [], 0⟩ w).kept ≤ baseU w ∧ (ju ⟨[], 0, [], 0⟩ w).gone ≤ baseU w ∧ (ju ⟨[], 0, [], 0⟩ w).D.length ≤ 3 * baseU w ∧ ∀ s ∈ (ju ⟨[], 0, [], 0⟩ w).D, s.op.n ≤ baseU w := by
  induction w using rev_ind with
  | h0 => simp [ju, baseU]
  | h1 w x ih =>
    obtain ⟨h1, h2, h3, h4⟩ := ih
    rw [ju_append, baseU_append]
    generalize ju ⟨[], 0, [], 0⟩ w = τ at *
    rw [show ju τ [x] = τ.add x from rfl]
    cases x with
    | K =>
      have e : baseU [U.K] = 1 := rfl
      rw [e]
      simp only [JU.add]
      split
      · refine ⟨by simp only; omega, by simp, ?_, fun s hs => ?_⟩
        · simp only [List.length_append]
          have : (flushP τ.kept τ.put τ.gone).length ≤ 3 := by unfold flushP; split <;> split <;> split <;> simp
          rename_i hc
          omega
        · simp only [List.mem_append] at hs
          rcases hs with hs | hs
          · have := h4 s hs; omega
          · simp only [flushP, List.mem_append] at hs
            rcases hs with hs | hs | hs
            · split at hs
              · simp at hs; subst hs; simp only [PS.op, PS.st, St.op]; omega
              · simp at hs
            · split at hs
              · simp at hs; subst hs; simp only [PS.op, PS.st, St.op]; omega
              · simp at hs
            · split at hs
              · simp at hs; subst hs; simp only [PS.op, PS.st, St.op]; omega
              · simp at hs
      · exact ⟨by simp only; omega, by simp only; omega, by simp only; omega, fun s hs => by have := h4 s hs; omega⟩
    | R =>
      have e : baseU [U.R] = 1 := rfl
      rw [e]
      exact ⟨by simp only [JU.add]; omega, by simp only [JU.add]; omega, by simp only [JU.add]; omega, fun s hs => by have := h4 s hs; omega⟩
    | I z =>
      have e : baseU [U.I z] = 0 := rfl
      rw [e]
      exact ⟨h1, h2, h3, h4⟩
end Go.Proofs.Ytphbjbigjpfjfaa

/-
  The walk of the reference's Built.
-/
namespace Go.Proofs.Ytphbjbigjpfjfaa
open Go.ChangeShapes Go.WideShapes Go.ChangeAt Go.RowKit Go.PlainAid

theorem mk_empty (l : List UInt8) : (mk l).size = 0 ↔ l = [] := by rw [mk_size]; exact List.length_eq_zero_iff
theorem outP_bd {τ : JU} {n : Nat} (h : τ.kept ≤ n ∧ τ.gone ≤ n ∧ τ.D.length ≤ 3 * n ∧ ∀ s ∈ τ.D, s.op.n ≤ n) : (τ.outP.map PS.op).length ≤ 3 * n + 1 ∧ ∀ o ∈ τ.outP.map PS.op, o.n ≤ n := by
  unfold JU.outP
  refine ⟨?_, fun o ho => ?_⟩
  · rw [List.length_map, List.length_append]
    split <;> simp <;> omega
  · obtain ⟨s, hs, rfl⟩ := List.mem_map.1 ho
    rcases List.mem_append.1 hs with hs | hs
    · exact h.2.2.2 s hs
    · split at hs
      · simp at hs; subst hs; simp only [PS.op, PS.st, St.op]; omega
      · simp at hs

theorem bnd1 {A : List OpD} {k : Nat} {x : OpD} (h : ∀ o ∈ A, o.n ≤ (k : Int)) (hk : k ≤ 1001) (hx : x.n ≤ 100000) : ∀ o ∈ A ++ [x], o.n ≤ 100000 := by
  intro o ho
  rcases List.mem_append.1 ho with h1 | h1
  · have := h o h1; omega
  · simp at h1; subst h1; exact hx
theorem bnd2 {A : List OpD} {k : Nat} {x y : OpD} (h : ∀ o ∈ A, o.n ≤ (k : Int)) (hk : k ≤ 1001) (hx : x.n ≤ 100000) (hy : y.n ≤ 100000) : ∀ o ∈ A ++ [x] ++ [y], o.n ≤ 100000 := by
  intro o ho
  rcases List.mem_append.1 ho with h1 | h1
  · exact bnd1 h hk hx o h1
  · simp at h1; subst h1; exact hy
theorem putTo_keep {D : List PS} {kept : Nat} {put : List Int} (h : JU.Ok ⟨D, kept, put, 0⟩) : PutTo ((JU.outP ⟨D, kept, put, 0⟩).map PS.op) ⟨1, 1, ⟨#[]⟩⟩ ((JU.outP ⟨D, kept + 1, [], 0⟩).map PS.op) := by
  unfold JU.outP
  simp only
  rw [if_pos (show 0 < kept + 1 by omega), List.map_append, List.map_append]
  by_cases h0 : 0 < kept
  · rw [if_pos h0]
    exact .join (D.map PS.op) kept
  · have hD : D = [] := h.z (by simp only; omega)
    have hk : kept = 0 := by omega
    subst hD; subst hk
    exact .nil _
section
variable {D : List PS} {kept gn : Nat} {put p' : List Int}
theorem out_eq11 (h1 : 0 < p'.length) (h2 : 0 < gn) : (JU.out ⟨D, kept, p', gn⟩).map PS.op = (JU.outP ⟨D, kept, put, gn⟩).map PS.op ++ [⟨2, 0, mk (enc p')⟩] ++ [⟨3, (gn : Int), ⟨#[]⟩⟩] := by
  simp only [JU.out, JU.outP, flushP, if_pos h1, if_pos h2, List.map_append, List.append_assoc]; rfl
theorem out_eq10 (h1 : 0 < p'.length) (_h2 : (0 : Nat) ≤ 0) : (JU.out ⟨D, kept, p', 0⟩).map PS.op = (JU.outP ⟨D, kept, put, 0⟩).map PS.op ++ [⟨2, 0, mk (enc p')⟩] := by
  simp only [JU.out, JU.outP, flushP, if_pos h1, if_neg (Nat.lt_irrefl 0), List.map_append, List.append_assoc, List.append_nil]; rfl
theorem out_eq01 (_h1 : (0 : Nat) ≤ 0) (h2 : 0 < gn) : (JU.out ⟨D, kept, [], gn⟩).map PS.op = (JU.outP ⟨D, kept, put, gn⟩).map PS.op ++ [⟨3, (gn : Int), ⟨#[]⟩⟩] := by
  simp only [JU.out, JU.outP, flushP, List.length_nil, if_neg (Nat.lt_irrefl 0), if_pos h2, List.map_append, List.append_assoc, List.nil_append]; rfl
theorem out_eq00 (_h1 : (0 : Nat) ≤ 0) (_h2 : (0 : Nat) ≤ 0) : (JU.out ⟨D, kept, [], 0⟩).map PS.op = (JU.outP ⟨D, kept, put, 0⟩).map PS.op := by
  simp only [JU.out, JU.outP, flushP, List.length_nil, if_neg (Nat.lt_irrefl 0), List.append_nil]
theorem outK (E : List PS) : (JU.outP ⟨E, 1, [], 0⟩).map PS.op = E.map PS.op ++ [⟨1, 1, ⟨#[]⟩⟩] := by
  simp only [JU.outP, if_pos (show 0 < 1 by decide), List.map_append]; rfl
theorem outK_eq11 (h1 : 0 < p'.length) (h2 : 0 < gn) : (JU.outP ⟨D ++ flushP kept p' gn, 1, [], 0⟩).map PS.op = (JU.outP ⟨D, kept, put, gn⟩).map PS.op ++ [⟨2, 0, mk (enc p')⟩] ++ [⟨3, (gn : Int), ⟨#[]⟩⟩] ++ [⟨1, 1, ⟨#[]⟩⟩] := by
  rw [outK, ← out_eq11 h1 h2]; rfl
theorem outK_eq10 (h1 : 0 < p'.length) (h2 : (0 : Nat) ≤ 0) : (JU.outP ⟨D ++ flushP kept p' 0, 1, [], 0⟩).map PS.op = (JU.outP ⟨D, kept, put, 0⟩).map PS.op ++ [⟨2, 0, mk (enc p')⟩] ++ [⟨1, 1, ⟨#[]⟩⟩] := by
  rw [outK, ← out_eq10 h1 h2]; rfl
theorem outK_eq01 (h1 : (0 : Nat) ≤ 0) (h2 : 0 < gn) : (JU.outP ⟨D ++ flushP kept [] gn, 1, [], 0⟩).map PS.op = (JU.outP ⟨D, kept, put, gn⟩).map PS.op ++ [⟨3, (gn : Int), ⟨#[]⟩⟩] ++ [⟨1, 1, ⟨#[]⟩⟩] := by
  rw [outK, ← out_eq01 h1 h2]; rfl
end

set_option maxRecDepth 20000 in
set_option maxHeartbeats 8000000 in
theorem built_any (vi vg : Value) (ins : List ByteArray) (gone : List Bool) (w : World) (hi : RdV w vi (ins.map Value.string)) (hg : RdV w vg (gone.map Value.bool)) (hl : ins.length = gone.length + 1) (hn : gone.length ≤ 1000) (hv : ∀ t ∈ ins, 0 ≤ cpl t ∧ t.size ≤ 1048576) :
    Calls Try.prog 34 #[.agg #[vi, vg]] w fun e w' => ∃ u, e = .returned u ∧ w'.ownsRow w.heap.size 50 3 u (nfU (formW ins gone)).length (ocs ((nfU (formW ins gone)).map PS.op)) ∧ Below w.heap.size w w' := by
  obtain ⟨io, ic, rfl, hic⟩ := hi
  obtain ⟨go, gc, rfl, hgc⟩ := hg
  rw [List.length_map] at *
  rw [List.length_map]
  rw [hl]
  have hbx : (w.alloc (.cells #[.slice io (gone.length + 1) ic, .slice go gone.length gc] 57)).heap[w.heap.size]? = some (.cells #[.slice io (gone.length + 1) ic, .slice go gone.length gc] 57) := heap_alloc_new w _
  have hbx0 : (w.alloc (.cells #[.slice io (gone.length + 1) ic, .slice go gone.length gc] 57)).cell? ⟨w.heap.size, 0, none⟩ = some (.slice io (gone.length + 1) ic) := cell_of_row _ _ 0 _ _ (0, 0) hbx
  have hbx1 : (w.alloc (.cells #[.slice io (gone.length + 1) ic, .slice go gone.length gc] 57)).cell? ⟨w.heap.size, 1, none⟩ = some (.slice go gone.length gc) := cell_of_row _ _ 1 _ _ (0, 0) hbx
  have hB0 : Below (w.heap.size + 1) (w.alloc (.cells #[.slice io (gone.length + 1) ic, .slice go gone.length gc] 57)) (w.alloc (.cells #[.slice io (gone.length + 1) ic, .slice go gone.length gc] 57)) := Below.refl _ _
  have hA : Below w.heap.size w (w.alloc (.cells #[.slice io (gone.length + 1) ic, .slice go gone.length gc] 57)) := (Below.refl _ _).alloc (Nat.le_refl _) _
  have hs0 : w.heap.size + 1 ≤ (w.alloc (.cells #[.slice io (gone.length + 1) ic, .slice go gone.length gc] 57)).heap.size := by simp
  clear hbx
  go_enter Try.func34, Try.ntmps34
  go_wp2
  generalize w.alloc (.cells #[.slice io (gone.length + 1) ic, .slice go gone.length gc] 57) = wb at *
  go_loopw [3, 4, 5, 6] (fun d c g i wr => (∃ k : Nat, k ≤ gone.length ∧ i = .int .i64 (k : Int) ∧ c = .string (mk (enc (ju ⟨[], 0, [], 0⟩ (gapW ins gone k)).put)) ∧ (ju ⟨[], 0, [], 0⟩ (gapW ins gone k)).put.length ≤ 1048576 * k ∧ g = .int .i64 ((ju ⟨[], 0, [], 0⟩ (gapW ins gone k)).gone : Int) ∧ wr.ownsRow (w.heap.size + 1) 50 3 d ((ju ⟨[], 0, [], 0⟩ (gapW ins gone k)).outP.map PS.op).length (ocs ((ju ⟨[], 0, [], 0⟩ (gapW ins gone k)).outP.map PS.op)) ∧ Below (w.heap.size + 1) wb wr ∧ w.heap.size + 1 ≤ wr.heap.size) ∨ (i = .int .i64 ((gone.length : Int) + 1) ∧ wr.ownsRow (w.heap.size + 1) 50 3 d ((nfU (formW ins gone)).map PS.op).length (ocs ((nfU (formW ins gone)).map PS.op)) ∧ Below (w.heap.size + 1) wb wr ∧ w.heap.size + 1 ≤ wr.heap.size)) (fun _ _ _ i _ => gone.length + 1 - (intOf i).toNat)
  case atStart => exact .inl ⟨0, by omega, rfl, rfl, by simp [gapW, ju], rfl, World.ownsRow_nil _ _ _ _, hB0, hs0⟩
  case round =>
    rcases hrel with ⟨k, hk, rfl, rfl, hpl, rfl, ho, hbl, hsz⟩ | ⟨rfl, ho, hbl, hsz⟩
    · have hok : (ju ⟨[], 0, [], 0⟩ (gapW ins gone k)).Ok := ok_ju _ ⟨fun _ => rfl, fun D y e => by simp at e⟩
      have hbd := ju_bd (gapW ins gone k)
      rw [baseU_gap] at hbd
      have hti : ins.getD k ⟨#[]⟩ ∈ ins := by simp [show k < ins.length by omega]
      have hcp := hv _ hti
      have HF : Hid (k = gone.length → nfU (formW ins gone) = (ju (ju ⟨[], 0, [], 0⟩ (gapW ins gone k)) ((pts (ins.getD k ⟨#[]⟩)).map .I)).out) := fun h => by rw [nfU, formW, ju_append, ← h]
      have HG : Hid (ju ⟨[], 0, [], 0⟩ (gapW ins gone (k + 1)) = (ju (ju ⟨[], 0, [], 0⟩ (gapW ins gone k)) ((pts (ins.getD k ⟨#[]⟩)).map .I)).add (if gone.getD k false then .R else .K)) := by
        show _ = _
        rw [gapW, ju_append, ju_append]
        rfl
      obtain ⟨bi, oi, rfl, hbi, ci⟩ := hic k (.string (ins.getD k ⟨#[]⟩)) (by simp [show k < ins.length by omega])
      have hbw : Below w.heap.size w wr := hA.trans (hbl.mono (by omega))
      have c0 := (hbw.cell (p := ⟨bi, oi + k, none⟩) hbi).trans ci
      have q0 := (hbl.cell (p := ⟨w.heap.size, 0, none⟩) (by simp)).trans hbx0
      have q1 := (hbl.cell (p := ⟨w.heap.size, 1, none⟩) (by simp)).trans hbx1
      have HGo : Hid (∀ h : k < gone.length, ∃ bg og, go = some ⟨bg, og, none⟩ ∧ wr.cell? ⟨bg, og + k, none⟩ = some (.bool (gone.getD k false))) := fun h => by
        obtain ⟨bg, og, e, hbg, cg⟩ := hgc k (.bool (gone.getD k false)) (by simp [h])
        exact ⟨bg, og, e, (hbw.cell (p := ⟨bg, og + k, none⟩) hbg).trans cg⟩
      clear hic hgc ci hv hti
      generalize ins.getD k ⟨#[]⟩ = t at *
      generalize ju ⟨[], 0, [], 0⟩ (gapW ins gone k) = τ at *
      have hob := outP_bd hbd
      obtain ⟨D, kept, put, gn⟩ := τ
      rw [ju_I] at HF HG
      simp only at *
      have hpt := pts_len hcp.1
      have hcl := cpl_le t
      obtain ⟨p', hp'⟩ : ∃ p', p' = put ++ pts t := ⟨_, rfl⟩
      have hp'l : p'.length ≤ 1048576 * (k + 1) := by rw [hp', List.length_append]; omega
      have hte := ins_enc hcp.1
      have HC : Hid (mk (enc put ++ t.data.toList) = mk (enc p')) := by show _ = _; rw [hte, ← enc_append, hp']
      have hel := enc_len put
      have hdl := data_len t
      have ha := fun W => pk.add_mk (enc put) t.data.toList W (by omega)
      rw [mk_data, HC.out] at ha
      have hep := enc_pos p'
      rw [← hp'] at HF HG
      have hg1 : (gn : Int) ≤ 1000 := by omega
      have hk1 : (k : Int) ≤ (gone.length : Int) := by omega
      have hgl : (gone.length : Int) ≤ 1000 := by omega
      clear hp' HC hte hel hdl hpt hcl hcp hpl hbd
      by_cases hlt : k < gone.length
      · have hlt' : (k : Int) < (gone.length : Int) := by omega
        obtain ⟨bg, og, rfl, cg⟩ := HGo.out hlt
        clear HGo HF
        cases hgk : gone.getD k false with
        | true =>
          rw [hgk] at cg HG
          have HG' : Hid (ju ⟨[], 0, [], 0⟩ (gapW ins gone (k + 1)) = ⟨D, kept, p', gn + 1⟩) := HG.out
          clear HG hgk hep hob hok
          generalize hC : mk (enc p') = C at *
          go_wp2
          go_roundw
          case rel => exact .inl ⟨k + 1, by omega, by go_num, by rw [HG'.out, hC], by rw [HG'.out]; exact hp'l, by rw [HG'.out]; go_num, by rw [HG'.out]; exact ho, hbl, hsz⟩
          case measure => simp [intOf]; omega
        | false =>
          rw [hgk] at cg HG
          simp only [if_false, Bool.false_eq_true] at HG
          clear hgk
          by_cases cP : 0 < p'.length
          · by_cases cG : (0 : Int) < (gn : Int)
            · have hE := empty_ff (s := mk (enc p')) (by rw [mk_size]; omega)
              have hob1 := hob.1
              have hp2 : PutTo ((JU.outP ⟨D, kept, put, gn⟩).map PS.op) ⟨2, 0, mk (enc p')⟩ (((JU.outP ⟨D, kept, put, gn⟩).map PS.op) ++ [⟨2, 0, mk (enc p')⟩]) := putTo_ins hok _ (show (2 : Int) ≠ 1 by decide)
              have hP2 := fun W d h1 h2 => put_any (w.heap.size + 1) d ((JU.outP ⟨D, kept, put, gn⟩).map PS.op) ⟨2, 0, mk (enc p')⟩ (((JU.outP ⟨D, kept, put, gn⟩).map PS.op) ++ [⟨2, 0, mk (enc p')⟩]) W h1 (by omega) (fun o ho => by have := hob.2 o ho; omega) h2 hp2
              have hp3 : PutTo (((JU.outP ⟨D, kept, put, gn⟩).map PS.op) ++ [⟨2, 0, mk (enc p')⟩]) ⟨3, (gn : Int), ⟨#[]⟩⟩ ((((JU.outP ⟨D, kept, put, gn⟩).map PS.op) ++ [⟨2, 0, mk (enc p')⟩]) ++ [⟨3, (gn : Int), ⟨#[]⟩⟩]) := .new _ _ _ (by simp)
              have hP3 := fun W d h1 h2 => put_any (w.heap.size + 1) d (((JU.outP ⟨D, kept, put, gn⟩).map PS.op) ++ [⟨2, 0, mk (enc p')⟩]) ⟨3, (gn : Int), ⟨#[]⟩⟩ ((((JU.outP ⟨D, kept, put, gn⟩).map PS.op) ++ [⟨2, 0, mk (enc p')⟩]) ++ [⟨3, (gn : Int), ⟨#[]⟩⟩]) W h1 (by (try simp only [List.length_append, List.length_cons, List.length_nil]); omega) (fun o ho => bnd1 hob.2 (by omega) (by simp) o ho) h2 hp3
              have hp1 : PutTo ((((JU.outP ⟨D, kept, put, gn⟩).map PS.op) ++ [⟨2, 0, mk (enc p')⟩]) ++ [⟨3, (gn : Int), ⟨#[]⟩⟩]) ⟨1, 1, ⟨#[]⟩⟩ (((((JU.outP ⟨D, kept, put, gn⟩).map PS.op) ++ [⟨2, 0, mk (enc p')⟩]) ++ [⟨3, (gn : Int), ⟨#[]⟩⟩]) ++ [⟨1, 1, ⟨#[]⟩⟩]) := .new _ _ _ (by simp)
              have hP1 := fun W d h1 h2 => put_any (w.heap.size + 1) d ((((JU.outP ⟨D, kept, put, gn⟩).map PS.op) ++ [⟨2, 0, mk (enc p')⟩]) ++ [⟨3, (gn : Int), ⟨#[]⟩⟩]) ⟨1, 1, ⟨#[]⟩⟩ (((((JU.outP ⟨D, kept, put, gn⟩).map PS.op) ++ [⟨2, 0, mk (enc p')⟩]) ++ [⟨3, (gn : Int), ⟨#[]⟩⟩]) ++ [⟨1, 1, ⟨#[]⟩⟩]) W h1 (by (try simp only [List.length_append, List.length_cons, List.length_nil]); omega) (fun o ho => bnd2 hob.2 (by omega) (by simp) (by simp; omega) o ho) h2 hp1
              have HG' : Hid (ju ⟨[], 0, [], 0⟩ (gapW ins gone (k + 1)) = ⟨D ++ flushP kept p' gn, 1, [], 0⟩) := by show _ = _; rw [HG.out, JU.add, if_pos (by simp only; omega)]
              have HL : Hid ((JU.outP ⟨D ++ flushP kept p' gn, 1, [], 0⟩).map PS.op = (((((JU.outP ⟨D, kept, put, gn⟩).map PS.op) ++ [⟨2, 0, mk (enc p')⟩]) ++ [⟨3, (gn : Int), ⟨#[]⟩⟩]) ++ [⟨1, 1, ⟨#[]⟩⟩])) := by show _ = _; exact outK_eq11 (by omega) (by omega)
              clear HG
              clear hok hob hob1 hep hp2 hp3 hp1
              generalize ((JU.outP ⟨D, kept, put, gn⟩).map PS.op) = O at *
              generalize mk (enc p') = C at *
              go_wp2_with fail
              refine (hP2 _ _ hsz ho).mono ?_
              rintro e wA ⟨uA, rfl, hoA, hbA⟩
              have hbl := hbl.trans hbA
              have hsz := Nat.le_trans hsz hbA.size
              have ho := hoA
              have q1 := (hbl.cell (p := ⟨w.heap.size, 1, none⟩) (by simp)).trans hbx1
              clear hoA hbA hP2
              go_wp2_with fail
              refine (hP3 _ _ hsz ho).mono ?_
              rintro e wA ⟨uA, rfl, hoA, hbA⟩
              have hbl := hbl.trans hbA
              have hsz := Nat.le_trans hsz hbA.size
              have ho := hoA
              have q1 := (hbl.cell (p := ⟨w.heap.size, 1, none⟩) (by simp)).trans hbx1
              clear hoA hbA hP3
              go_wp2_with fail
              refine (hP1 _ _ hsz ho).mono ?_
              rintro e wA ⟨uA, rfl, hoA, hbA⟩
              have hbl := hbl.trans hbA
              have hsz := Nat.le_trans hsz hbA.size
              have ho := hoA
              have q1 := (hbl.cell (p := ⟨w.heap.size, 1, none⟩) (by simp)).trans hbx1
              clear hoA hbA hP1
              go_wp2_with fail
              go_roundw
              case rel => exact .inl ⟨k + 1, by omega, by go_num, by rw [HG'.out]; rfl, by rw [HG'.out]; simp, by rw [HG'.out]; rfl, by rw [HG'.out, HL.out]; exact ho, hbl, hsz⟩
              case measure => simp [intOf]; omega
            · obtain rfl : gn = 0 := by omega
              have hE := empty_ff (s := mk (enc p')) (by rw [mk_size]; omega)
              have hob1 := hob.1
              have hp2 : PutTo ((JU.outP ⟨D, kept, put, 0⟩).map PS.op) ⟨2, 0, mk (enc p')⟩ (((JU.outP ⟨D, kept, put, 0⟩).map PS.op) ++ [⟨2, 0, mk (enc p')⟩]) := putTo_ins hok _ (show (2 : Int) ≠ 1 by decide)
              have hP2 := fun W d h1 h2 => put_any (w.heap.size + 1) d ((JU.outP ⟨D, kept, put, 0⟩).map PS.op) ⟨2, 0, mk (enc p')⟩ (((JU.outP ⟨D, kept, put, 0⟩).map PS.op) ++ [⟨2, 0, mk (enc p')⟩]) W h1 (by omega) (fun o ho => by have := hob.2 o ho; omega) h2 hp2
              have hp1 : PutTo (((JU.outP ⟨D, kept, put, 0⟩).map PS.op) ++ [⟨2, 0, mk (enc p')⟩]) ⟨1, 1, ⟨#[]⟩⟩ ((((JU.outP ⟨D, kept, put, 0⟩).map PS.op) ++ [⟨2, 0, mk (enc p')⟩]) ++ [⟨1, 1, ⟨#[]⟩⟩]) := .new _ _ _ (by simp)
              have hP1 := fun W d h1 h2 => put_any (w.heap.size + 1) d (((JU.outP ⟨D, kept, put, 0⟩).map PS.op) ++ [⟨2, 0, mk (enc p')⟩]) ⟨1, 1, ⟨#[]⟩⟩ ((((JU.outP ⟨D, kept, put, 0⟩).map PS.op) ++ [⟨2, 0, mk (enc p')⟩]) ++ [⟨1, 1, ⟨#[]⟩⟩]) W h1 (by (try simp only [List.length_append, List.length_cons, List.length_nil]); omega) (fun o ho => bnd1 hob.2 (by omega) (by simp) o ho) h2 hp1
              have HG' : Hid (ju ⟨[], 0, [], 0⟩ (gapW ins gone (k + 1)) = ⟨D ++ flushP kept p' 0, 1, [], 0⟩) := by show _ = _; rw [HG.out, JU.add, if_pos (by simp only; omega)]
              have HL : Hid ((JU.outP ⟨D ++ flushP kept p' 0, 1, [], 0⟩).map PS.op = ((((JU.outP ⟨D, kept, put, 0⟩).map PS.op) ++ [⟨2, 0, mk (enc p')⟩]) ++ [⟨1, 1, ⟨#[]⟩⟩])) := by show _ = _; exact outK_eq10 (by omega) (by omega)
              clear HG
              clear hok hob hob1 hep hp2 hp1
              generalize ((JU.outP ⟨D, kept, put, 0⟩).map PS.op) = O at *
              generalize mk (enc p') = C at *
              go_wp2_with fail
              refine (hP2 _ _ hsz ho).mono ?_
              rintro e wA ⟨uA, rfl, hoA, hbA⟩
              have hbl := hbl.trans hbA
              have hsz := Nat.le_trans hsz hbA.size
              have ho := hoA
              have q1 := (hbl.cell (p := ⟨w.heap.size, 1, none⟩) (by simp)).trans hbx1
              clear hoA hbA hP2
              go_wp2_with fail
              refine (hP1 _ _ hsz ho).mono ?_
              rintro e wA ⟨uA, rfl, hoA, hbA⟩
              have hbl := hbl.trans hbA
              have hsz := Nat.le_trans hsz hbA.size
              have ho := hoA
              have q1 := (hbl.cell (p := ⟨w.heap.size, 1, none⟩) (by simp)).trans hbx1
              clear hoA hbA hP1
              go_wp2_with fail
              go_roundw
              case rel => exact .inl ⟨k + 1, by omega, by go_num, by rw [HG'.out]; rfl, by rw [HG'.out]; simp, by rw [HG'.out]; rfl, by rw [HG'.out, HL.out]; exact ho, hbl, hsz⟩
              case measure => simp [intOf]; omega
          · by_cases cG : (0 : Int) < (gn : Int)
            · have hp0 : p' = [] := List.eq_nil_of_length_eq_zero (by omega)
              subst hp0
              have hE := empty_tt (s := mk (enc [])) (by rw [mk_size]; omega)
              have hob1 := hob.1
              have hp3 : PutTo ((JU.outP ⟨D, kept, put, gn⟩).map PS.op) ⟨3, (gn : Int), ⟨#[]⟩⟩ (((JU.outP ⟨D, kept, put, gn⟩).map PS.op) ++ [⟨3, (gn : Int), ⟨#[]⟩⟩]) := putTo_ins hok _ (show (3 : Int) ≠ 1 by decide)
              have hP3 := fun W d h1 h2 => put_any (w.heap.size + 1) d ((JU.outP ⟨D, kept, put, gn⟩).map PS.op) ⟨3, (gn : Int), ⟨#[]⟩⟩ (((JU.outP ⟨D, kept, put, gn⟩).map PS.op) ++ [⟨3, (gn : Int), ⟨#[]⟩⟩]) W h1 (by (try simp only [List.length_append, List.length_cons, List.length_nil]); omega) (fun o ho => by have := hob.2 o ho; omega) h2 hp3
              have hp1 : PutTo (((JU.outP ⟨D, kept, put, gn⟩).map PS.op) ++ [⟨3, (gn : Int), ⟨#[]⟩⟩]) ⟨1, 1, ⟨#[]⟩⟩ ((((JU.outP ⟨D, kept, put, gn⟩).map PS.op) ++ [⟨3, (gn : Int), ⟨#[]⟩⟩]) ++ [⟨1, 1, ⟨#[]⟩⟩]) := .new _ _ _ (by simp)
              have hP1 := fun W d h1 h2 => put_any (w.heap.size + 1) d (((JU.outP ⟨D, kept, put, gn⟩).map PS.op) ++ [⟨3, (gn : Int), ⟨#[]⟩⟩]) ⟨1, 1, ⟨#[]⟩⟩ ((((JU.outP ⟨D, kept, put, gn⟩).map PS.op) ++ [⟨3, (gn : Int), ⟨#[]⟩⟩]) ++ [⟨1, 1, ⟨#[]⟩⟩]) W h1 (by (try simp only [List.length_append, List.length_cons, List.length_nil]); omega) (fun o ho => bnd1 hob.2 (by omega) (by simp; omega) o ho) h2 hp1
              have HG' : Hid (ju ⟨[], 0, [], 0⟩ (gapW ins gone (k + 1)) = ⟨D ++ flushP kept [] gn, 1, [], 0⟩) := by show _ = _; rw [HG.out, JU.add, if_pos (by simp only; omega)]
              have HL : Hid ((JU.outP ⟨D ++ flushP kept [] gn, 1, [], 0⟩).map PS.op = ((((JU.outP ⟨D, kept, put, gn⟩).map PS.op) ++ [⟨3, (gn : Int), ⟨#[]⟩⟩]) ++ [⟨1, 1, ⟨#[]⟩⟩])) := by show _ = _; exact outK_eq01 (by omega) (by omega)
              clear HG
              clear hok hob hob1 hep hp3 hp1
              generalize ((JU.outP ⟨D, kept, put, gn⟩).map PS.op) = O at *
              generalize mk (enc []) = C at *
              go_wp2_with fail
              refine (hP3 _ _ hsz ho).mono ?_
              rintro e wA ⟨uA, rfl, hoA, hbA⟩
              have hbl := hbl.trans hbA
              have hsz := Nat.le_trans hsz hbA.size
              have ho := hoA
              have q1 := (hbl.cell (p := ⟨w.heap.size, 1, none⟩) (by simp)).trans hbx1
              clear hoA hbA hP3
              go_wp2_with fail
              refine (hP1 _ _ hsz ho).mono ?_
              rintro e wA ⟨uA, rfl, hoA, hbA⟩
              have hbl := hbl.trans hbA
              have hsz := Nat.le_trans hsz hbA.size
              have ho := hoA
              have q1 := (hbl.cell (p := ⟨w.heap.size, 1, none⟩) (by simp)).trans hbx1
              clear hoA hbA hP1
              go_wp2_with fail
              go_roundw
              case rel => exact .inl ⟨k + 1, by omega, by go_num, by rw [HG'.out]; rfl, by rw [HG'.out]; simp, by rw [HG'.out]; rfl, by rw [HG'.out, HL.out]; exact ho, hbl, hsz⟩
              case measure => simp [intOf]; omega
            · have hp0 : p' = [] := List.eq_nil_of_length_eq_zero (by omega)
              subst hp0
              obtain rfl : gn = 0 := by omega
              have hE := empty_tt (s := mk (enc [])) (by rw [mk_size]; omega)
              have hob1 := hob.1
              have hp1 : PutTo ((JU.outP ⟨D, kept, put, 0⟩).map PS.op) ⟨1, 1, ⟨#[]⟩⟩ ((JU.outP ⟨D, kept + 1, [], 0⟩).map PS.op) := putTo_keep hok
              have hP1 := fun W d h1 h2 => put_any (w.heap.size + 1) d ((JU.outP ⟨D, kept, put, 0⟩).map PS.op) ⟨1, 1, ⟨#[]⟩⟩ ((JU.outP ⟨D, kept + 1, [], 0⟩).map PS.op) W h1 (by omega) (fun o ho => by have := hob.2 o ho; omega) h2 hp1
              have HG' : Hid (ju ⟨[], 0, [], 0⟩ (gapW ins gone (k + 1)) = ⟨D, kept + 1, [], 0⟩) := by show _ = _; rw [HG.out, JU.add, if_neg (by simp only; omega)]
              clear HG
              clear hok hob hob1 hep hp1
              generalize ((JU.outP ⟨D, kept, put, 0⟩).map PS.op) = O at *
              generalize mk (enc []) = C at *
              go_wp2_with fail
              refine (hP1 _ _ hsz ho).mono ?_
              rintro e wA ⟨uA, rfl, hoA, hbA⟩
              have hbl := hbl.trans hbA
              have hsz := Nat.le_trans hsz hbA.size
              have ho := hoA
              have q1 := (hbl.cell (p := ⟨w.heap.size, 1, none⟩) (by simp)).trans hbx1
              clear hoA hbA hP1
              go_wp2_with fail
              go_roundw
              case rel => exact .inl ⟨k + 1, by omega, by go_num, by rw [HG'.out]; rfl, by rw [HG'.out]; simp, by rw [HG'.out]; rfl, by rw [HG'.out]; exact ho, hbl, hsz⟩
              case measure => simp [intOf]; omega
      · have hke : k = gone.length := by omega
        have hkn : ¬ (k : Int) < (gone.length : Int) := by omega
        have HKe : Hid (k = gone.length) := hke
        have HF' : Hid (nfU (formW ins gone) = JU.out ⟨D, kept, p', gn⟩) := HF.out hke
        clear HG HF HGo hlt hke
        by_cases cP : 0 < p'.length
        · by_cases cG : (0 : Int) < (gn : Int)
          · have hE := empty_ff (s := mk (enc p')) (by rw [mk_size]; omega)
            have hob1 := hob.1
            have hp2 : PutTo ((JU.outP ⟨D, kept, put, gn⟩).map PS.op) ⟨2, 0, mk (enc p')⟩ (((JU.outP ⟨D, kept, put, gn⟩).map PS.op) ++ [⟨2, 0, mk (enc p')⟩]) := putTo_ins hok _ (show (2 : Int) ≠ 1 by decide)
            have hP2 := fun W d h1 h2 => put_any (w.heap.size + 1) d ((JU.outP ⟨D, kept, put, gn⟩).map PS.op) ⟨2, 0, mk (enc p')⟩ (((JU.outP ⟨D, kept, put, gn⟩).map PS.op) ++ [⟨2, 0, mk (enc p')⟩]) W h1 (by omega) (fun o ho => by have := hob.2 o ho; omega) h2 hp2
            have hp3 : PutTo (((JU.outP ⟨D, kept, put, gn⟩).map PS.op) ++ [⟨2, 0, mk (enc p')⟩]) ⟨3, (gn : Int), ⟨#[]⟩⟩ ((((JU.outP ⟨D, kept, put, gn⟩).map PS.op) ++ [⟨2, 0, mk (enc p')⟩]) ++ [⟨3, (gn : Int), ⟨#[]⟩⟩]) := .new _ _ _ (by simp)
            have hP3 := fun W d h1 h2 => put_any (w.heap.size + 1) d (((JU.outP ⟨D, kept, put, gn⟩).map PS.op) ++ [⟨2, 0, mk (enc p')⟩]) ⟨3, (gn : Int), ⟨#[]⟩⟩ ((((JU.outP ⟨D, kept, put, gn⟩).map PS.op) ++ [⟨2, 0, mk (enc p')⟩]) ++ [⟨3, (gn : Int), ⟨#[]⟩⟩]) W h1 (by (try simp only [List.length_append, List.length_cons, List.length_nil]); omega) (fun o ho => bnd1 hob.2 (by omega) (by simp) o ho) h2 hp3
            have HL : Hid ((nfU (formW ins gone)).map PS.op = ((((JU.outP ⟨D, kept, put, gn⟩).map PS.op) ++ [⟨2, 0, mk (enc p')⟩]) ++ [⟨3, (gn : Int), ⟨#[]⟩⟩])) := by show _ = _; rw [HF'.out]; exact out_eq11 (by omega) (by omega)
            clear HF'
            clear hok hob hob1 hep hp2 hp3
            generalize ((JU.outP ⟨D, kept, put, gn⟩).map PS.op) = O at *
            generalize mk (enc p') = C at *
            go_wp2_with fail
            refine (hP2 _ _ hsz ho).mono ?_
            rintro e wA ⟨uA, rfl, hoA, hbA⟩
            have hbl := hbl.trans hbA
            have hsz := Nat.le_trans hsz hbA.size
            have ho := hoA
            have q1 := (hbl.cell (p := ⟨w.heap.size, 1, none⟩) (by simp)).trans hbx1
            clear hoA hbA hP2
            go_wp2_with fail
            refine (hP3 _ _ hsz ho).mono ?_
            rintro e wA ⟨uA, rfl, hoA, hbA⟩
            have hbl := hbl.trans hbA
            have hsz := Nat.le_trans hsz hbA.size
            have ho := hoA
            have q1 := (hbl.cell (p := ⟨w.heap.size, 1, none⟩) (by simp)).trans hbx1
            clear hoA hbA hP3
            go_wp2_with fail
            go_roundw
            case rel => exact .inr ⟨by rw [HKe.out], by rw [HL.out]; exact ho, hbl, hsz⟩
            case measure => simp [intOf]; omega
          · obtain rfl : gn = 0 := by omega
            have hE := empty_ff (s := mk (enc p')) (by rw [mk_size]; omega)
            have hob1 := hob.1
            have hp2 : PutTo ((JU.outP ⟨D, kept, put, 0⟩).map PS.op) ⟨2, 0, mk (enc p')⟩ (((JU.outP ⟨D, kept, put, 0⟩).map PS.op) ++ [⟨2, 0, mk (enc p')⟩]) := putTo_ins hok _ (show (2 : Int) ≠ 1 by decide)
            have hP2 := fun W d h1 h2 => put_any (w.heap.size + 1) d ((JU.outP ⟨D, kept, put, 0⟩).map PS.op) ⟨2, 0, mk (enc p')⟩ (((JU.outP ⟨D, kept, put, 0⟩).map PS.op) ++ [⟨2, 0, mk (enc p')⟩]) W h1 (by omega) (fun o ho => by have := hob.2 o ho; omega) h2 hp2
            have HL : Hid ((nfU (formW ins gone)).map PS.op = (((JU.outP ⟨D, kept, put, 0⟩).map PS.op) ++ [⟨2, 0, mk (enc p')⟩])) := by show _ = _; rw [HF'.out]; exact out_eq10 (by omega) (by omega)
            clear HF'
            clear hok hob hob1 hep hp2
            generalize ((JU.outP ⟨D, kept, put, 0⟩).map PS.op) = O at *
            generalize mk (enc p') = C at *
            go_wp2_with fail
            refine (hP2 _ _ hsz ho).mono ?_
            rintro e wA ⟨uA, rfl, hoA, hbA⟩
            have hbl := hbl.trans hbA
            have hsz := Nat.le_trans hsz hbA.size
            have ho := hoA
            have q1 := (hbl.cell (p := ⟨w.heap.size, 1, none⟩) (by simp)).trans hbx1
            clear hoA hbA hP2
            go_wp2_with fail
            go_roundw
            case rel => exact .inr ⟨by rw [HKe.out], by rw [HL.out]; exact ho, hbl, hsz⟩
            case measure => simp [intOf]; omega
        · by_cases cG : (0 : Int) < (gn : Int)
          · have hp0 : p' = [] := List.eq_nil_of_length_eq_zero (by omega)
            subst hp0
            have hE := empty_tt (s := mk (enc [])) (by rw [mk_size]; omega)
            have hob1 := hob.1
            have hp3 : PutTo ((JU.outP ⟨D, kept, put, gn⟩).map PS.op) ⟨3, (gn : Int), ⟨#[]⟩⟩ (((JU.outP ⟨D, kept, put, gn⟩).map PS.op) ++ [⟨3, (gn : Int), ⟨#[]⟩⟩]) := putTo_ins hok _ (show (3 : Int) ≠ 1 by decide)
            have hP3 := fun W d h1 h2 => put_any (w.heap.size + 1) d ((JU.outP ⟨D, kept, put, gn⟩).map PS.op) ⟨3, (gn : Int), ⟨#[]⟩⟩ (((JU.outP ⟨D, kept, put, gn⟩).map PS.op) ++ [⟨3, (gn : Int), ⟨#[]⟩⟩]) W h1 (by (try simp only [List.length_append, List.length_cons, List.length_nil]); omega) (fun o ho => by have := hob.2 o ho; omega) h2 hp3
            have HL : Hid ((nfU (formW ins gone)).map PS.op = (((JU.outP ⟨D, kept, put, gn⟩).map PS.op) ++ [⟨3, (gn : Int), ⟨#[]⟩⟩])) := by show _ = _; rw [HF'.out]; exact out_eq01 (by omega) (by omega)
            clear HF'
            clear hok hob hob1 hep hp3
            generalize ((JU.outP ⟨D, kept, put, gn⟩).map PS.op) = O at *
            generalize mk (enc []) = C at *
            go_wp2_with fail
            refine (hP3 _ _ hsz ho).mono ?_
            rintro e wA ⟨uA, rfl, hoA, hbA⟩
            have hbl := hbl.trans hbA
            have hsz := Nat.le_trans hsz hbA.size
            have ho := hoA
            have q1 := (hbl.cell (p := ⟨w.heap.size, 1, none⟩) (by simp)).trans hbx1
            clear hoA hbA hP3
            go_wp2_with fail
            go_roundw
            case rel => exact .inr ⟨by rw [HKe.out], by rw [HL.out]; exact ho, hbl, hsz⟩
            case measure => simp [intOf]; omega
          · have hp0 : p' = [] := List.eq_nil_of_length_eq_zero (by omega)
            subst hp0
            obtain rfl : gn = 0 := by omega
            have hE := empty_tt (s := mk (enc [])) (by rw [mk_size]; omega)
            have hob1 := hob.1
            have HL : Hid ((nfU (formW ins gone)).map PS.op = ((JU.outP ⟨D, kept, put, 0⟩).map PS.op)) := by show _ = _; rw [HF'.out]; exact out_eq00 (by omega) (by omega)
            clear HF'
            clear hok hob hob1 hep
            generalize ((JU.outP ⟨D, kept, put, 0⟩).map PS.op) = O at *
            generalize mk (enc []) = C at *
            go_wp2
            go_roundw
            case rel => exact .inr ⟨by rw [HKe.out], by rw [HL.out]; exact ho, hbl, hsz⟩
            case measure => simp [intOf]; omega
    · have h1 : ¬ (gone.length : Int) + 1 ≤ (gone.length : Int) := by omega
      have q1 := (hbl.cell (p := ⟨w.heap.size, 1, none⟩) (by simp)).trans hbx1
      have hgl : (gone.length : Int) ≤ 1000 := by omega
      clear hic hgc hv
      go_wp2
      go_ret
      rw [List.length_map] at ho
      exact ⟨_, rfl, own_lower ho (by omega), hA.trans (hbl.mono (by omega))⟩
end Go.Proofs.Ytphbjbigjpfjfaa

/-
  What the reference's Formed does, in plain words; its memory.
-/
namespace Go.Proofs.Ytphbjbigjpfjfaa
open Go.ChangeShapes Go.WideShapes Go.ChangeAt Go.RowKit Go.PlainAid

/-- What is kept and put in up to a gap, and in it. -/
def gapM (ins : List ByteArray) (gone : List Bool) (i : Nat) : List (Nat ⊕ Int) := mkU 0 (gapW ins gone i) ++ (pts (ins.getD i ⟨#[]⟩)).map .inr
theorem pts_nil : pts ⟨#[]⟩ = [] := rfl
theorem gapM_R {ins : List ByteArray} {gone : List Bool} {i : Nat} (h : gone.getD i false = true) (he : ins.getD (i + 1) ⟨#[]⟩ = ⟨#[]⟩) : gapM ins gone (i + 1) = gapM ins gone i := by
  rw [gapM, gapM, he, pts_nil, gapW, mkU_append, mkU_append, mkU_I, h]
  simp [mkU]
theorem gapM_K {ins : List ByteArray} {gone : List Bool} {i : Nat} (h : gone.getD i false = false) (he : ins.getD (i + 1) ⟨#[]⟩ = ⟨#[]⟩) : gapM ins gone (i + 1) = gapM ins gone i ++ [.inl i] := by
  rw [gapM, gapM, he, pts_nil, gapW, mkU_append, mkU_append, mkU_I, h, baseU_gap, baseU_I]
  simp [mkU]
theorem gapM_Rs {ins : List ByteArray} {gone : List Bool} {g : Nat} (he : ∀ j, g < j → ins.getD j ⟨#[]⟩ = ⟨#[]⟩) : ∀ m, (∀ j, g ≤ j → j < g + m → gone.getD j false = true) → gapM ins gone (g + m) = gapM ins gone g
  | 0, _ => rfl
  | m + 1, h => by
    rw [← Nat.add_assoc, gapM_R (h _ (by omega) (by omega)) (he _ (by omega)), gapM_Rs he m (fun j h1 h2 => h j h1 (by omega))]
theorem gapM_Ks {ins : List ByteArray} {gone : List Bool} {a : Nat} (he : ∀ j, a < j → ins.getD j ⟨#[]⟩ = ⟨#[]⟩) : ∀ m, (∀ j, a ≤ j → j < a + m → gone.getD j false = false) → gapM ins gone (a + m) = gapM ins gone a ++ (List.range m).map (fun j => .inl (a + j))
  | 0, _ => by simp
  | m + 1, h => by
    rw [← Nat.add_assoc, gapM_K (h _ (by omega) (by omega)) (he _ (by omega)), gapM_Ks he m (fun j h1 h2 => h j h1 (by omega)), List.range_succ]
    simp
theorem gapW_congr {ins ins' : List ByteArray} {gone gone' : List Bool} : ∀ i, (∀ j, j < i → ins'.getD j ⟨#[]⟩ = ins.getD j ⟨#[]⟩ ∧ gone'.getD j false = gone.getD j false) → gapW ins' gone' i = gapW ins gone i
  | 0, _ => rfl
  | i + 1, h => by
    rw [gapW, gapW, (h i (by omega)).1, (h i (by omega)).2, gapW_congr i (fun j hj => h j (by omega))]
theorem cat_ok {a t : ByteArray} (ha : 0 ≤ cpl a) (ht : 0 ≤ cpl t) : 0 ≤ cpl (mk (a.data.toList ++ t.data.toList)) ∧ pts (mk (a.data.toList ++ t.data.toList)) = pts a ++ pts t := by
  rw [ins_enc ha, ins_enc ht, ← enc_append]
  have h := cpl_enc (p := pts a ++ pts t) (fun z hz => by
    rcases List.mem_append.1 hz with h | h
    · exact pts_ok ha z h
    · exact pts_ok ht z h)
  exact ⟨by rw [h.1]; omega, h.2⟩

/-- What Formed has on its way. -/
structure FI (l : List St) (n k g : Nat) (ins : List ByteArray) (gone : List Bool) : Prop where
  li : ins.length = n + 1
  lg : gone.length = n
  ga : g ≤ bsum (l.take k)
  m : gapM ins gone g = mkU 0 (uw (l.take k))
  r : ∀ j, g ≤ j → j < bsum (l.take k) → gone.getD j false = true
  f : ∀ j, bsum (l.take k) ≤ j → gone.getD j false = false
  e : ∀ j, g < j → ins.getD j ⟨#[]⟩ = ⟨#[]⟩
  v : ∀ t ∈ ins, 0 ≤ cpl t ∧ t.size ≤ 4 * tsum (l.take k)

theorem take_uw {l : List St} {k : Nat} (h : k < l.length) : uw (l.take (k + 1)) = uw (l.take k) ++ (l[k]).u := by
  rw [List.take_succ_eq_append_getElem h, uw_append]; simp [uw]
theorem fi_start (l : List St) (n : Nat) : FI l n 0 0 (List.replicate (n + 1) ⟨#[]⟩) (List.replicate n false) := by
  have hi : ∀ j, (List.replicate (n + 1) (⟨#[]⟩ : ByteArray)).getD j ⟨#[]⟩ = ⟨#[]⟩ := fun j => by
    by_cases h : j < n + 1 <;> simp [List.getD, h]
  refine ⟨by simp, by simp, by simp, ?_, fun j _ h => by simp [bsum] at h, fun j _ => ?_, fun j _ => hi j, fun t ht => ?_⟩
  · rw [gapM, hi, pts_nil]; rfl
  · by_cases h : j < n <;> simp [List.getD, h]
  · have := List.eq_of_mem_replicate ht
    subst this
    exact ⟨by decide, by show 0 ≤ _; omega⟩
theorem fi_keep {l : List St} {n k g m : Nat} {ins : List ByteArray} {gone : List Bool} (h : FI l n k g ins gone) (hk : k < l.length) (hs : l[k] = .keep m) : FI l n (k + 1) (bsum (l.take k) + m) ins gone := by
  have hb := bsum_take l k hk
  have ht := tsum_take l k hk
  rw [hs] at hb ht
  simp only [St.b, St.c] at hb ht
  refine ⟨h.li, h.lg, by omega, ?_, fun j h1 h2 => by omega, fun j h1 => h.f j (by omega), fun j h1 => h.e j (by have := h.ga; omega), fun t ht' => ⟨(h.v t ht').1, by have := (h.v t ht').2; omega⟩⟩
  have e1 : gapM ins gone (bsum (l.take k)) = gapM ins gone g := by
    have := gapM_Rs (g := g) h.e (bsum (l.take k) - g) (fun j h1 h2 => h.r j h1 (by omega))
    rwa [show g + (bsum (l.take k) - g) = bsum (l.take k) by have := h.ga; omega] at this
  rw [gapM_Ks (fun j hj => h.e j (by have := h.ga; omega)) m (fun j h1 h2 => h.f j h1), e1, h.m, take_uw hk, hs, mkU_append, base_uw]
  simp only [St.u, mkU_K, Nat.zero_add]
theorem fi_rem {l : List St} {n k g m : Nat} {ins : List ByteArray} {gone gone' : List Bool} (h : FI l n k g ins gone) (hk : k < l.length) (hs : l[k] = .rem m) (hl : gone'.length = n)
    (h1 : ∀ j, j < bsum (l.take k) → gone'.getD j false = gone.getD j false) (h2 : ∀ j, bsum (l.take k) ≤ j → j < bsum (l.take k) + m → gone'.getD j false = true) (h3 : ∀ j, bsum (l.take k) + m ≤ j → gone'.getD j false = gone.getD j false) : FI l n (k + 1) g ins gone' := by
  have hb := bsum_take l k hk
  have ht := tsum_take l k hk
  rw [hs] at hb ht
  simp only [St.b, St.c] at hb ht
  have hga := h.ga
  refine ⟨h.li, hl, by omega, ?_, fun j q1 q2 => ?_, fun j q => ?_, h.e, fun t ht' => ⟨(h.v t ht').1, by have := (h.v t ht').2; omega⟩⟩
  · have e := gapW_congr (ins := ins) (ins' := ins) (gone := gone) (gone' := gone') g (fun j hj => ⟨rfl, h1 j (by omega)⟩)
    have hm := h.m
    rw [gapM] at hm ⊢
    rw [e, hm, take_uw hk, hs, mkU_append]
    simp only [St.u, mkU_R, List.append_nil]
  · by_cases hj : j < bsum (l.take k)
    · rw [h1 j hj]; exact h.r j q1 hj
    · exact h2 j (by omega) (by omega)
  · rw [h3 j (by omega)]; exact h.f j (by omega)
theorem fi_ins {l : List St} {n k g : Nat} {t : ByteArray} {ins : List ByteArray} {gone : List Bool} (h : FI l n k g ins gone) (hk : k < l.length) (hs : l[k] = .ins t) (ho : (St.ins t).Ok) (hgn : g ≤ n) :
    FI l n (k + 1) g (ins.set g (mk ((ins.getD g ⟨#[]⟩).data.toList ++ t.data.toList))) gone := by
  have hb := bsum_take l k hk
  have ht := tsum_take l k hk
  rw [hs] at hb ht
  simp only [St.b, St.c, St.Ok] at hb ht ho
  have hga := h.ga
  have hli := h.li
  have hin : ins.getD g ⟨#[]⟩ ∈ ins := by simp [show g < ins.length by omega]
  have hvg := h.v _ hin
  have hcat := cat_ok hvg.1 (t := t) (by omega)
  have hget : ∀ j, j ≠ g → (ins.set g (mk ((ins.getD g ⟨#[]⟩).data.toList ++ t.data.toList))).getD j ⟨#[]⟩ = ins.getD j ⟨#[]⟩ := fun j hj => by
    rw [List.getD_eq_getElem?_getD, List.getElem?_set_ne (fun e => hj e.symm), List.getD_eq_getElem?_getD]
  have hgg : (ins.set g (mk ((ins.getD g ⟨#[]⟩).data.toList ++ t.data.toList))).getD g ⟨#[]⟩ = mk ((ins.getD g ⟨#[]⟩).data.toList ++ t.data.toList) := by
    have : g < ins.length := by omega
    simp [List.getD, this]
  refine ⟨by rw [List.length_set]; exact hli, h.lg, by omega, ?_, fun j q1 q2 => h.r j q1 (by omega), fun j q => h.f j (by omega), fun j q => ?_, fun x hx => ?_⟩
  · have e := gapW_congr (ins := ins) (ins' := ins.set g (mk ((ins.getD g ⟨#[]⟩).data.toList ++ t.data.toList))) (gone := gone) (gone' := gone) g (fun j hj => ⟨hget j (by omega), rfl⟩)
    have hm := h.m
    rw [gapM] at hm ⊢
    rw [e, hgg, hcat.2, List.map_append, ← List.append_assoc, hm, take_uw hk, hs, mkU_append]
    simp only [St.u, mkU_I]
  · rw [hget j (by omega)]; exact h.e j q
  · rcases List.mem_or_eq_of_mem_set hx with hx | hx
    · have := h.v x hx; exact ⟨this.1, by omega⟩
    · subst hx
      refine ⟨hcat.1, ?_⟩
      have hs1 := hvg.2
      have hs2 := size_cpl ho.1
      rw [mk_size, List.length_append, data_len, data_len]
      omega
/-- The form's word does what the delta does. -/
theorem fi_end {l : List St} {n g : Nat} {ins : List ByteArray} {gone : List Bool} (h : FI l n l.length g ins gone) (hn : bsum l = n) : baseU (formW ins gone) = baseU (uw l) ∧ mkU 0 (formW ins gone) = mkU 0 (uw l) := by
  have hm := h.m
  have hr := h.r
  have hga := h.ga
  rw [List.take_length] at hm hr hga
  have e1 := gapM_Rs (g := g) h.e (n - g) (fun j h1 h2 => hr j h1 (by omega))
  rw [show g + (n - g) = n by omega] at e1
  refine ⟨?_, ?_⟩
  · rw [formW, baseU_append, baseU_gap, baseU_I, h.lg, base_uw, hn]; rfl
  · rw [formW, mkU_append, mkU_I, h.lg, ← hm, ← e1, gapM]

/-- A form on its way, in memory. -/
structure FM (n : Nat) (w W : World) (pr pb gi gg : Nat) (ins : List ByteArray) (gone : List Bool) : Prop where
  box : W.heap[pb]? = some (.cells #[.slice (some ⟨gi, 0, none⟩) (n + 1) (n + 1), .slice (some ⟨gg, 0, none⟩) n n] 57)
  ir : W.heap[gi]? = some (.cells (ins.map Value.string).toArray 9)
  gr : W.heap[gg]? = some (.cells (gone.map Value.bool).toArray 4)
  res : W.heap[pr]? = some (.cells #[.slice none 0 0, .slice none 0 0] 57)
  ne : pr ≠ pb
  pb0 : w.heap.size ≤ pb
  gi0 : w.heap.size ≤ gi
  gg0 : w.heap.size ≤ gg
  pr0 : w.heap.size ≤ pr
  bel : Below w.heap.size w W

theorem heap_ne {W : World} {p q : Nat} {c d : Array Value} {s t : TypeId} (h : W.heap[p]? = some (.cells c s)) (k : W.heap[q]? = some (.cells d t)) (hne : s ≠ t) : p ≠ q := fun e => by
  subst e
  rw [h] at k
  simp at k
  exact hne k.2
theorem FM.setG {n : Nat} {w W : World} {pr pb gi gg : Nat} {ins : List ByteArray} {gone : List Bool} (h : FM n w W pr pb gi gg ins gone) (j : Nat) : FM n w (W.setCell ⟨gg, j, none⟩ (.bool true)) pr pb gi gg ins (gone.set j true) := by
  have n1 := heap_ne h.box h.gr (by decide)
  have n2 := heap_ne h.ir h.gr (by decide)
  have n3 := heap_ne h.res h.gr (by decide)
  refine ⟨?_, ?_, ?_, ?_, h.ne, h.pb0, h.gi0, h.gg0, h.pr0, below_set h.bel h.gg0 h.bel.size⟩
  · rw [Below.heap_setCell W ⟨gg, j, none⟩ _ pb n1]; exact h.box
  · rw [Below.heap_setCell W ⟨gg, j, none⟩ _ gi n2]; exact h.ir
  · rw [heap_setCell h.gr j _]
    simp
  · rw [Below.heap_setCell W ⟨gg, j, none⟩ _ pr n3]; exact h.res
theorem FM.setI {n : Nat} {w W : World} {pr pb gi gg : Nat} {ins : List ByteArray} {gone : List Bool} (h : FM n w W pr pb gi gg ins gone) (j : Nat) (t : ByteArray) : FM n w (W.setCell ⟨gi, j, none⟩ (.string t)) pr pb gi gg (ins.set j t) gone := by
  have n1 := heap_ne h.box h.ir (by decide)
  have n2 := heap_ne h.gr h.ir (by decide)
  have n3 := heap_ne h.res h.ir (by decide)
  refine ⟨?_, ?_, ?_, ?_, h.ne, h.pb0, h.gi0, h.gg0, h.pr0, below_set h.bel h.gi0 h.bel.size⟩
  · rw [Below.heap_setCell W ⟨gi, j, none⟩ _ pb n1]; exact h.box
  · rw [heap_setCell h.ir j _]
    simp
  · rw [Below.heap_setCell W ⟨gi, j, none⟩ _ gg n2]; exact h.gr
  · rw [Below.heap_setCell W ⟨gi, j, none⟩ _ pr n3]; exact h.res
theorem FM.drew {n : Nat} {w W : World} {pr pb gi gg : Nat} {ins : List ByteArray} {gone : List Bool} (h : FM n w W pr pb gi gg ins gone) : FM n w W.drew pr pb gi gg ins gone :=
  ⟨h.box, h.ir, h.gr, h.res, h.ne, h.pb0, h.gi0, h.gg0, h.pr0, h.bel.drew⟩
end Go.Proofs.Ytphbjbigjpfjfaa
