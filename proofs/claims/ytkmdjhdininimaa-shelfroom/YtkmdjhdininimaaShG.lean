/-
  A text is written into sectors: fill.
-/
import Derived.Test.YtkmdjhdininimaaShF
namespace Go.Proofs.Ytkmdjhdininimaa
open Go.RowKit Go.Maps

theorem wpList_copy_strN {P : Program} {ops : Array Oper} {rest : List Oper} {o : Oper} {a : Act} {w : World} {Q : Exit → Act → World → Prop} (u : World) (hg : o.guard = none) (d s : Operand) (dT sT e t : TypeId) (hop : o.op = Op.call { callee := Callee.builtin Builtin.copy, args := #[d, s], argTypes := #[dT, sT] })
    (c : List Value) (x : ByteArray) (n : Nat) (hn : c.length = n) (hw : w = u.alloc (.cells c.toArray t)) (hd : a.eval d = .slice (some ⟨u.heap.size, 0, none⟩) n n) (hs : a.eval s = .string x)
    (hu : P.underlying dT = some (.slice e)) (hi : (P.info? e).map (·.size) = some 1)
    (hK : wpList P ops Q rest (a.put o.dst (.int .i64 ((min x.size n : Nat) : Int))) (u.alloc (.cells (cpy x c).toArray t))) : wpList P ops Q (o :: rest) a w := by
  subst hw
  refine wpList_plain hg fun K hK' => ?_
  have hfc : ∀ m, (Builtin.firstCells 1 m (.string x)).run P (u.alloc (.cells c.toArray t)) = .ok (bv (x.data.toList.take m)).toArray (u.alloc (.cells c.toArray t)) := by
    intro m
    have e1 : ((x.extract 0 m).data.map fun b : UInt8 => Value.int .u8 (b.toNat : Int)) = (bv (x.data.toList.take m)).toArray := by
      apply Array.toList_inj.1
      simp [bv, ByteArray.data_extract, List.map_take]
    simp only [Builtin.firstCells, e1]
    rfl
  have hst := run_storeCells_at P u.heap.size 0 t (bv (x.data.toList.take (Nat.min x.size n))) 0 c.toArray (u.alloc (.cells c.toArray t)) (heap_alloc_last u _) (by
    simp [bv_len, List.length_take]
    have : Nat.min x.size n ≤ n := Nat.min_le_right _ _
    omega) (fun v hv => by
      obtain ⟨b, _, rfl⟩ := List.mem_map.1 hv
      rfl)
  have hres : (c.toArray.toList.take (0 + 0) ++ bv (x.data.toList.take (Nat.min x.size n)) ++ c.toArray.toList.drop (0 + 0 + (bv (x.data.toList.take (Nat.min x.size n))).length)) = cpy x c := by
    have hxs : x.data.toList.length = x.size := by rw [Array.length_toList]; rfl
    unfold cpy
    rw [bv_len, List.length_take, hxs, ← hn]
    by_cases h : x.size ≤ c.length
    · have e1 : Nat.min x.size c.length = x.size := Nat.min_eq_left h
      rw [e1]
      simp [List.take_of_length_le (show x.data.toList.length ≤ x.size by omega), List.take_of_length_le (show x.data.toList.length ≤ c.length by omega)]
    · have e1 : Nat.min x.size c.length = c.length := Nat.min_eq_right (by omega)
      rw [e1]
      have e2 : min c.length x.size = c.length := Nat.min_eq_left (by omega)
      simp [e2, List.drop_eq_nil_of_le (show c.length ≤ x.size by omega)]
  rw [hres, World.setRow_alloc_new] at hst
  unfold Oper.wp
  cases hq : P.info? e with
  | none => simp [hq] at hi
  | some i =>
    have hi' : i.size = 1 := by simpa [hq] using hi
    simp [execOp, hop, resolve, invoke, builtin, hd, hs, Builtin.copy_, run_underlying hu, Builtin.lenOf, sizeOf, typeInfo, hq, hi', hfc, hst, Result.andThen]
    exact hK' _ _ hK


/-- A text's first sector, with zeros behind it; all of its sectors. -/
def padS (l : List UInt8) : Sec := l.take 64 ++ List.replicate (64 - l.length) 0
theorem padS_len (l : List UInt8) : (padS l).length = 64 := by simp [padS]; omega
def secN : Nat → List UInt8 → List Sec
  | 0, _ => []
  | n + 1, l => if l = [] then [] else padS l :: secN n (l.drop 64)
def secs (l : List UInt8) : List Sec := secN l.length l
theorem secN_more : ∀ (n : Nat) (l : List UInt8), l.length ≤ n → secN n l = secs l := by
  have key : ∀ (n m : Nat) (l : List UInt8), l.length ≤ n → l.length ≤ m → secN n l = secN m l := by
    intro n
    induction n with
    | zero =>
      intro m l h1 h2
      have : l = [] := List.eq_nil_of_length_eq_zero (by omega)
      subst this
      cases m <;> simp [secN]
    | succ n ih =>
      intro m l h1 h2
      cases m with
      | zero =>
        have : l = [] := List.eq_nil_of_length_eq_zero (by omega)
        subst this
        simp [secN]
      | succ m =>
        rw [secN, secN]
        by_cases h : l = []
        · rw [if_pos h, if_pos h]
        · have hp := List.length_pos_iff.2 h
          rw [if_neg h, if_neg h, ih m (l.drop 64) (by simp; omega) (by simp; omega)]
  exact fun n l h => key n l.length l h (Nat.le_refl _)
theorem secs_nil : secs [] = [] := rfl
theorem secs_cons {l : List UInt8} (h : l ≠ []) : secs l = padS l :: secs (l.drop 64) := by
  have hp := List.length_pos_iff.2 h
  unfold secs
  obtain ⟨n, hn⟩ : ∃ n, l.length = n + 1 := ⟨l.length - 1, by omega⟩
  rw [hn, secN, if_neg h, secN_more n (l.drop 64) (by simp; omega)]
  rfl
/-- Sectors are written one behind the other, as far as the device goes. -/
def wrS (s : DevS) (at_ : Nat) : List Sec → Int × DevS
  | [] => (0, s)
  | t :: r => if (s.write (at_ : Int) (mk t)).1 = 0 then wrS (s.write (at_ : Int) (mk t)).2 (at_ + 1) r else s.write (at_ : Int) (mk t)
/-- How a call ends that answers nothing, or throws. -/
def rt (x : Int) : Ending := if x = 0 then .returned (.tuple #[]) else thr x
theorem mkl (l : List UInt8) : (mk l).data.toList = l := by simp [mk]
theorem mks (l : List UInt8) : (mk l).size = l.length := by simp [mk, ByteArray.size]
theorem cpy_pad (l : List UInt8) : cpy (mk l) zeroC = bv (padS l) := by
  unfold cpy padS
  rw [mkl, mks, zeroC_len]
  unfold zeroC zeroS bv
  rw [List.map_append, ← List.map_drop, List.drop_replicate]
theorem SB.apart {W : World} {q p bs bw : Nat} {s : DevS} {age : Int} {lost : Bool} (h : SB W q p age lost) (hd : IsDev W p bs bw s) : q ∉ [p, bs, bw] := by
  have h1 : q ≠ p := fun e => by
    have h2 := hd.str
    rw [← e] at h2
    have h3 : some (Obj.cells #[.pointer (some ⟨p, 0, none⟩), .int .i64 age, .bool lost] 79) = some (Obj.cells (devCells s bs bw) 60) := h.symm.trans h2
    injection h3 with h3
    injection h3 with _ h4
    cases h4
  have h2 : q ≠ bs := fun e => by
    obtain ⟨es, c, hb, _⟩ := hd.safe
    rw [← e, show W.heap[q]? = _ from h] at hb
    cases hb
  have h3 : q ≠ bw := fun e => by
    obtain ⟨es, c, hb, _⟩ := hd.waits
    rw [← e, show W.heap[q]? = _ from h] at hb
    cases hb
  simp [h1, h2, h3]
theorem extract_drop (l : List UInt8) (n : Nat) : (mk l).extract n (mk l).size = mk (l.drop n) := by
  apply ByteArray.ext
  apply Array.toList_inj.1
  simp [mk, ByteArray.data_extract, ByteArray.size]
  exact List.take_of_length_le (by simp)
set_option maxRecDepth 20000 in
set_option maxHeartbeats 1000000 in
theorem fill_any {w : World} {q p bs bw : Nat} {s : DevS} {age : Int} {lost : Bool} (h : IsDev w p bs bw s) (hs : SB w q p age lost) (a0 : Nat) (ha : a0 ≤ 100000) (l : List UInt8) (hl : l.length ≤ 40000) :
    Calls Try.prog 65 #[.pointer (some ⟨q, 0, none⟩), .int .i64 (a0 : Int), .string (mk l)] w fun e w' => e = rt (wrS s a0 (secs l)).1 ∧ IsDev w' p bs bw (wrS s a0 (secs l)).2 ∧ Only [p, bs, bw] w w' := by
  have hap := hs.apart h
  go_enter Try.func65, Try.ntmps65
  go_wp2_with fail
  go_loopw [1, 2] (fun a x wr => ∃ (k : Nat) (l' : List UInt8) (s' : DevS), k + l'.length ≤ l.length ∧ a = .int .i64 ((a0 + k : Nat) : Int) ∧ x = .string (mk l') ∧ Hid (wrS s a0 (secs l) = wrS s' (a0 + k) (secs l')) ∧ IsDev wr p bs bw s' ∧ SB wr q p age lost ∧ Only [p, bs, bw] w wr) (fun _ x _ => match x with | .string y => y.size | _ => 0)
  case atStart => exact ⟨0, l, s, by omega, rfl, rfl, rfl, h, hs, Only.refl _ _⟩
  case round =>
    obtain ⟨k, l', s', hkl, rfl, rfl, HW, hD, hS, hO⟩ := hrel
    have hsz := mks l'
    by_cases hne : l' = []
    · have HN : Hid (wrS s a0 (secs l) = (0, s')) := by show _ = _; rw [HW.out, hne, secs_nil]; rfl
      have h0 : ¬ (0 : Int) < ((mk l').size : Int) := by rw [hsz, hne]; simp
      clear HW hsz
      generalize mk l' = X at *
      go_wp2_with fail
      go_end0
      rw [HN.out]
      exact ⟨rfl, hD, hO⟩
    · have hp := List.length_pos_iff.2 hne
      have h0 : (0 : Int) < ((mk l').size : Int) := by rw [hsz]; omega
      have hA : Below wr.heap.size wr (wr.alloc (.cells (bv (padS l')).toArray 81)) := (Below.refl _ wr).alloc (Nat.le_refl _) _
      have hcell := heap_alloc_last wr (.cells (bv (padS l')).toArray 81)
      have hpl := padS_len l'
      have hbl : (bv (padS l')).length = 64 := by rw [bv_len, hpl]
      have cW := swrite_any (hD.below hA) (hS.below hA) ((a0 + k : Nat) : Int) (padS l') hpl
      have HC : Hid (cpy (mk l') zeroC = bv (padS l')) := cpy_pad l'
      have HT : Hid (wrS s a0 (secs l) = if (s'.write ((a0 + k : Nat) : Int) (mk (padS l'))).1 = 0 then wrS (s'.write ((a0 + k : Nat) : Int) (mk (padS l'))).2 (a0 + k + 1) (secs (l'.drop 64)) else ((s'.write ((a0 + k : Nat) : Int) (mk (padS l'))).1, (s'.write ((a0 + k : Nat) : Int) (mk (padS l'))).2)) := by show _ = _; rw [HW.out, secs_cons hne, wrS]
      have hmn : min (mk l').size 64 ≤ (mk l').size := Nat.min_le_left _ _
      have HX : Hid ((mk l').extract (min (mk l').size 64) (mk l').size = mk (l'.drop 64)) := by
        show _ = _
        rw [extract_drop, mks]
        congr 1
        by_cases h64 : l'.length ≤ 64
        · rw [Nat.min_eq_left h64, List.drop_length, List.drop_eq_nil_of_le h64]
        · rw [Nat.min_eq_right (by omega)]
      have hO1 : Only [p, bs, bw] w (wr.alloc (.cells (bv (padS l')).toArray 81)) := hO.trans (Only.alloc _ _ _)
      have hS1 := hS.below hA
      have hds : (mk (l'.drop 64)).size < (mk l').size := by rw [mks, mks]; simp; omega
      have hdl : (l'.drop 64).length + 1 ≤ l'.length := by simp; omega
      clear HW hD hS hO
      generalize (s'.write ((a0 + k : Nat) : Int) (mk (padS l'))).2 = s2 at *
      generalize (s'.write ((a0 + k : Nat) : Int) (mk (padS l'))).1 = x at *
      have hmi : ((min (mk l').size 64 : Nat) : Int) ≤ ((mk l').size : Int) := by omega
      generalize hmm : min (mk l').size 64 = mm at *
      have hak : ((a0 + k : Nat) : Int) ≤ 200000 := by omega
      by_cases hx : x = 0
      · subst hx
        rw [if_pos rfl] at cW
        have HN : Hid (wrS s a0 (secs l) = wrS s2 (a0 + k + 1) (secs (l'.drop 64))) := by show _ = _; rw [HT.out, if_pos rfl]
        clear HT
        go_wp2_with (first
          | (with_reducible refine at_alloc 81 rfl ?_; refine wpList_alloc_arr rfl 81 rfl zeroC.toArray Try.zeroH ?_)
          | (with_reducible refine at_bi .copy _ _ rfl ?_; refine wpList_copy_strN wr rfl (.tmp 11) (.tmp 12) 28 9 5 81 rfl zeroC (mk l') 64 zeroC_len rfl ?_ rfl Try.underlying28 (by kernel_rfl) ?_; simp [Act.eval]; rw [HC.out, hmm]; go_frame)
          | (with_reducible refine at_load 81 _ rfl ?_; refine wpList_load_row rfl 81 _ rfl wr.heap.size 81 _ _ _ hcell rfl Try.underlying81 rfl (by simpa [hbl] using Try.sizeH) ?_)
          | (go_at_call 66; refine cW.mono ?_; rintro e w2 ⟨rfl, hd2, ho2⟩))
        have HX2 : (mk l').extract mm l'.length = mk (l'.drop 64) := by have := HX.out; rw [hsz] at this; exact this
        rw [HX2]
        exact ⟨⟨k + 1, l'.drop 64, s2, by omega, by go_num, rfl, HN, hd2, hS1.only ho2 hap, hO1.trans ho2⟩, hds⟩
      · rw [if_neg hx] at cW
        have HN : Hid (wrS s a0 (secs l) = (x, s2)) := by show _ = _; rw [HT.out, if_neg hx]
        have HE : Hid ((thr x) = rt x) := by show _ = _; unfold rt; rw [if_neg hx]
        unfold thr at cW
        clear HT
        go_wp2_with (first
          | (with_reducible refine at_alloc 81 rfl ?_; refine wpList_alloc_arr rfl 81 rfl zeroC.toArray Try.zeroH ?_)
          | (with_reducible refine at_bi .copy _ _ rfl ?_; refine wpList_copy_strN wr rfl (.tmp 11) (.tmp 12) 28 9 5 81 rfl zeroC (mk l') 64 zeroC_len rfl ?_ rfl Try.underlying28 (by kernel_rfl) ?_; simp [Act.eval]; rw [HC.out, hmm]; go_frame)
          | (with_reducible refine at_load 81 _ rfl ?_; refine wpList_load_row rfl 81 _ rfl wr.heap.size 81 _ _ _ hcell rfl Try.underlying81 rfl (by simpa [hbl] using Try.sizeH) ?_)
          | (go_at_call 66; refine cW.mono ?_; rintro e w2 ⟨rfl, hd2, ho2⟩))
        refine ⟨rfl, ?_⟩
        show _ = rt _ ∧ _
        rw [HN.out]
        exact ⟨HE.out, hd2, hO1.trans ho2⟩
end Go.Proofs.Ytkmdjhdininimaa
