/-
  The bytes of code points; the contracts of appendPoint and Text.
-/
import Derived.Test.YtaopfdgebibpeaaTxRun
import Derived.Lib.AppendStr
namespace Go.Proofs.Ytaopfdgebibpeaa
open Go.ChangeShapes Go.WideShapes Go.ChangeAt Go.RowKit Go.PlainAid

theorem Try.info5 : (Try.prog.info? 5).map (fun i => (i.zero, i.size, i.bytes)) = some (some (.int .u8 0), 1, 1) := by kernel_rfl

/-- The bytes of a code point. -/
def ptB (n : Nat) : List UInt8 :=
  if n < 128 then [UInt8.ofNat n]
  else if n < 2048 then [UInt8.ofNat (192 + n / 64), UInt8.ofNat (128 + n % 64)]
  else if n < 65536 then [UInt8.ofNat (224 + n / 4096), UInt8.ofNat (128 + n / 64 % 64), UInt8.ofNat (128 + n % 64)]
  else [UInt8.ofNat (240 + n / 262144), UInt8.ofNat (128 + n / 4096 % 64), UInt8.ofNat (128 + n / 64 % 64), UInt8.ofNat (128 + n % 64)]

theorem ptB1 {n : Nat} (h : n < 128) : ptB n = [UInt8.ofNat n] := by rw [ptB, if_pos h]
theorem ptB2 {n : Nat} (h1 : 128 ≤ n) (h : n < 2048) : ptB n = [UInt8.ofNat (192 + n / 64), UInt8.ofNat (128 + n % 64)] := by rw [ptB, if_neg (by omega), if_pos h]
theorem ptB3 {n : Nat} (h1 : 2048 ≤ n) (h : n < 65536) : ptB n = [UInt8.ofNat (224 + n / 4096), UInt8.ofNat (128 + n / 64 % 64), UInt8.ofNat (128 + n % 64)] := by rw [ptB, if_neg (by omega), if_neg (by omega), if_pos h]
theorem ptB4 {n : Nat} (h1 : 65536 ≤ n) : ptB n = [UInt8.ofNat (240 + n / 262144), UInt8.ofNat (128 + n / 4096 % 64), UInt8.ofNat (128 + n / 64 % 64), UInt8.ofNat (128 + n % 64)] := by rw [ptB, if_neg (by omega), if_neg (by omega), if_neg (by omega)]

theorem ptB_len (n : Nat) : 1 ≤ (ptB n).length ∧ (ptB n).length ≤ 4 := by
  unfold ptB; split; · simp
  split; · simp
  split <;> simp

theorem bv_one {x : Nat} {y : Int} (h : x < 256) (e : (x : Int) = y) : Value.int .u8 ((UInt8.ofNat x).toNat : Int) = .int .u8 y := by rw [byte_nat x h, e]

theorem many_new (wr : World) (l : List Value) (e : Nat) : ∀ j u, l[j]? = some u → (wr.alloc (.cells l.toArray e)).cell? ((⟨wr.heap.size, 0, none⟩ : Addr).add j) = some u := by
  intro j u hj
  have hadd : (⟨wr.heap.size, 0, none⟩ : Addr).add j = ⟨wr.heap.size, j, none⟩ := by unfold Addr.add; split <;> simp_all
  rw [hadd, cell_of_row _ _ j l.toArray e (0, 0) (heap_alloc_new wr _)]
  simpa using hj

theorem many_one (l : List Int) : ∀ u ∈ l.map (Value.int .u8), u.oneCell' = true := by
  intro u hu
  simp only [List.mem_map] at hu
  obtain ⟨x, _, rfl⟩ := hu
  rfl

theorem own_more {w1 : World} {base e n m : Nat} {v' : Value} {L M : List UInt8} {xs : List Value} (h : w1.ownsRow base e 1 v' (n + m) (bv L ++ xs)) (hn : L.length = n) (hm : M.length = m) (hx : bv M = xs) :
    w1.ownsRow base e 1 v' (L ++ M).length (bv (L ++ M)) := by
  subst hx; subst hn; subst hm
  rw [bv_append, List.length_append]
  exact h

end Go.Proofs.Ytaopfdgebibpeaa

/-
  The contracts of text.Text and the reference's point, bytes and Text.
-/
namespace Go.Proofs.Ytaopfdgebibpeaa
open Go.ChangeShapes Go.WideShapes Go.ChangeAt Go.RowKit Go.PlainAid

/-- The slice v reads as these numbers. -/
def ReadsI (w : World) (v : Value) (zs : List Int) : Prop :=
  (zs = [] ∧ ∃ ao cp, v = .slice ao 0 cp) ∨ ∃ b off cp, v = .slice (some ⟨b, off, none⟩) zs.length cp ∧ ∀ i, i < zs.length → w.cell? ⟨b, off + i, none⟩ = some (.int .i64 (zs.getD i 0))

theorem readsI_below {w w' : World} {v : Value} {zs : List Int} (h : ReadsI w v zs) (hb : Below w.heap.size w w') : ReadsI w' v zs := by
  rcases h with h | ⟨b, off, cp, rfl, h⟩
  · exact .inl h
  · exact .inr ⟨b, off, cp, rfl, fun i hi => (hb.cell (World.block_lt_of_cell? w _ (h i hi))).trans (h i hi)⟩

theorem readsI_own {w : World} {base : Nat} {v : Value} {zs : List Int} (h : w.ownsRow base 3 1 v zs.length (iv zs)) : ReadsI w v zs := by
  rcases h.2 with ⟨rfl, h0⟩ | ⟨g, cap, cur, rfl, _⟩
  · exact .inl ⟨List.eq_nil_of_length_eq_zero h0, _, _, rfl⟩
  · refine .inr ⟨g, 0, cap, rfl, fun i hi => ?_⟩
    have := h.cells (g := g) rfl i (.int .i64 (zs.getD i 0)) (by simp [iv, hi])
    have hadd : (⟨g, 0, none⟩ : Addr).add i = ⟨g, 0 + i, none⟩ := by unfold Addr.add; split <;> simp_all
    rw [hadd] at this
    exact this

theorem readsI_at {w : World} {v : Value} {zs : List Int} (h : ReadsI w v zs) : ∃ ao cp, v = .slice ao zs.length cp ∧ (0 < zs.length → ∃ b off, ao = some ⟨b, off, none⟩ ∧ ∀ i, i < zs.length → w.cell? ⟨b, off + i, none⟩ = some (.int .i64 (zs.getD i 0))) := by
  rcases h with ⟨rfl, ao, cp, rfl⟩ | ⟨b, off, cp, rfl, h⟩
  · exact ⟨ao, cp, rfl, fun h => by simp at h⟩
  · exact ⟨_, cp, rfl, fun _ => ⟨b, off, rfl, h⟩⟩

/-- The bytes of numbers. -/
def enc (zs : List Int) : List UInt8 := (zs.map (fun z => ptB z.toNat)).flatten
theorem enc_nil : enc [] = [] := rfl
theorem enc_append (a b : List Int) : enc (a ++ b) = enc a ++ enc b := by simp [enc]
theorem enc_one (z : Int) : enc [z] = ptB z.toNat := by simp [enc]
theorem enc_len (zs : List Int) : (enc zs).length ≤ 4 * zs.length := by
  induction zs with
  | nil => simp [enc]
  | cons z zs ih =>
    have h := ptB_len z.toNat
    have e : enc (z :: zs) = ptB z.toNat ++ enc zs := by simp [enc]
    rw [e, List.length_append, List.length_cons]
    omega
theorem take_snocI (zs : List Int) (k : Nat) (h : k < zs.length) : zs.take (k + 1) = zs.take k ++ [zs.getD k 0] := by
  rw [List.take_succ_eq_append_getElem h]; simp [h]
theorem enc_succ (zs : List Int) (k : Nat) (h : k < zs.length) : enc (zs.take (k + 1)) = enc (zs.take k) ++ ptB (zs.getD k 0).toNat := by
  rw [take_snocI zs k h, enc_append, enc_one]
theorem enc_take_len (zs : List Int) (k : Nat) : (enc (zs.take k)).length ≤ 4 * zs.length := by
  have h1 := enc_len (zs.take k)
  have h2 : (zs.take k).length ≤ zs.length := List.length_take_le' ..
  omega

/-- What making a text of numbers gives. -/
def textR (zs : List Int) : ByteArray × Bool := if ∀ z ∈ zs, szI z ≠ 0 then (mk (enc zs), true) else (⟨#[]⟩, false)

theorem szI_nonneg {z : Int} (h : szI z ≠ 0) : 0 ≤ z ∧ z ≤ 1114111 ∧ ¬ (55296 ≤ z ∧ z ≤ 57343) := by
  by_cases hc : z < 0 ∨ 1114111 < z ∨ (55296 ≤ z ∧ z ≤ 57343)
  · exact absurd (by rw [szI, if_pos hc]) h
  · omega



theorem conv_lit (F : List UInt8) (xs : List Value) (k : Nat) (hk : F.length = k) (hx : bv F = xs) (u : World) :
    (convert 54 9 (.slice (some ⟨u.heap.size, 0, none⟩) k k)).run Try.prog (u.alloc (.cells xs.toArray 5)) = .ok (.string (mk F)) (u.alloc (.cells xs.toArray 5)) := by
  subst hk
  exact run_convert_bytes_back _ 54 9 5 ⟨u.heap.size, 0, none⟩ F.length F Try.underlying54 Try.underlying5 Try.underlying9 (fun j hj => many_new u xs 5 j _ (by rw [← hx]; simp [bv, hj]))


theorem own_text {w1 : World} {base e n : Nat} {v' : Value} {L M : List UInt8} (h : w1.ownsRow base e 1 v' (n + (mk M).size) (bv L ++ Lib.strCells (mk M))) (hn : L.length = n) :
    w1.ownsRow base e 1 v' (L ++ M).length (bv (L ++ M)) := by
  subst hn
  rw [bv_append, List.length_append]
  rw [mk_size] at h
  exact h

theorem below_grown {base : Nat} {w wr w1 : World} {e n : Nat} {v : Value} {xs : List Value} (hb : base ≤ w.heap.size) (hbl : Below base w wr) (hown : wr.ownsRow base e 1 v n xs) (hg : wr.grownBy w1 v.ownBlock) : Below base w w1 :=
  hbl.grown hg (Nat.le_trans hb hbl.size) (fun k hk => (hown.lt k hk).1)
theorem own_below {w w' : World} {base e n : Nat} {v : Value} {L : List Value} (h : w.ownsRow base e 1 v n L) (hb : Below w.heap.size w w') : w'.ownsRow base e 1 v n L :=
  h.kept (row := none) ⟨hb.os, hb.tape, hb.output, hb.size, fun k hk _ => hb.block k hk⟩ (by cases v.ownBlock <;> simp)

end Go.Proofs.Ytaopfdgebibpeaa
