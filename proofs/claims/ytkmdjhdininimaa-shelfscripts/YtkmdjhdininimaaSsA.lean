/-
  The scripts of shelf: short, often, the pair as it lies in memory, looks.
-/
import Derived.Test.YtkmdjhdininimaaShY
import Derived.Lib.BufferRead
namespace Go.Proofs.Ytkmdjhdininimaa
open Go.RowKit Go.Maps

set_option maxHeartbeats 400000 in
theorem short_any (x : ByteArray) (w : World) (hx : x.size ≤ maxLen) : Calls Try.prog 21 #[.string x] w fun e w' => e = .returned (.string (if 2000 < x.size then x.extract 0 2000 else x)) ∧ w' = w := by
  unfold maxLen at hx
  by_cases h : 2000 < x.size
  · rw [if_pos h]
    have h' : (2000 : Int) < (x.size : Int) := by omega
    go_enter Try.func21, Try.ntmps21
    go_wp2_with fail
    go_ret
    exact ⟨rfl, rfl⟩
  · rw [if_neg h]
    have h' : ¬ (2000 : Int) < (x.size : Int) := by omega
    go_enter Try.func21, Try.ntmps21
    go_wp2_with fail
    go_ret
    exact ⟨rfl, rfl⟩
theorem short_le (x : ByteArray) : (if 2000 < x.size then x.extract 0 2000 else x).size ≤ 2000 := by
  split
  · simp [ByteArray.size_extract]; omega
  · omega

theorem conv_ownS {w : World} {base : Nat} {v : Value} {n : Nat} {l : List UInt8} (h : w.ownsRow base 5 1 v n (bv l)) : (convert 28 9 v).run Try.prog w = .ok (.string (Go.Proofs.Ytkmdjhdininimaa.mk l)) w := by
  have hl := h.1
  rw [bv_len] at hl
  rcases h.2 with ⟨rfl, rfl⟩ | ⟨g, cap, cur, rfl, _⟩
  · have : l = [] := List.eq_nil_of_length_eq_zero (by omega)
    subst this
    exact Lib.run_convert_nil_bytes w 28 9 5 0 Try.underlying28 Try.underlying5 Try.underlying9
  · have hn : n = l.length := by omega
    subst hn
    exact run_convert_bytes_back w 28 9 5 ⟨g, 0, none⟩ cap l Try.underlying28 Try.underlying5 Try.underlying9 (fun j hj => h.cells (g := g) rfl j _ (by simp [bv, hj]))
theorem str_bv (s : ByteArray) : Lib.strCells s = bv s.data.toList := rfl

set_option maxRecDepth 20000 in
set_option maxHeartbeats 1000000 in
theorem often_any (y : ByteArray) (n : Nat) (w : World) (hy : y.size ≤ 2000) (hn : n ≤ 300) : Calls Try.prog 20 #[.string y, .int .i64 (n : Int)] w fun e w' => (∃ z : ByteArray, e = .returned (.string z) ∧ z.size ≤ 600000) ∧ Below w.heap.size w w' := by
  obtain ⟨i0, hin, hz0, hz1, hz2⟩ := info_parts Try.infoU
  go_enter Try.func20, Try.ntmps20
  go_wp2_with fail
  go_loopw [5, 6] (fun v i wr => ∃ (k : Nat) (L : List UInt8), k ≤ n ∧ i = .int .i64 (k : Int) ∧ wr.ownsRow w.heap.size 5 1 v L.length (bv L) ∧ L.length ≤ k * 2000 ∧ Below w.heap.size w wr) (fun _ i _ => n - (intOf i).toNat)
  case atStart => exact ⟨0, [], by omega, rfl, World.ownsRow_nil _ _ _ _, by simp, Below.refl _ _⟩
  case round =>
    obtain ⟨k, L, hk, rfl, ho, hL, hb⟩ := hrel
    by_cases hlt : k < n
    · have hlt' : (k : Int) < (n : Int) := by omega
      go_wp2_with (at_builtin; refine Lib.wpList_append_own_string _ rfl (.tmp 12) (.tmp 13) 28 9 rfl w.heap.size 5 i0 Try.underlying28 Try.underlying9 hin hz0 hz1 hz2 _ _ _ rfl ho y rfl (by unfold maxLen; omega) (by omega) hb.size ?_; intro v4 w4 ho4 hg4 _)
      go_roundw
      case rel =>
        refine ⟨k + 1, L ++ y.data.toList, by omega, by go_num, ?_, by rw [List.length_append, bytes_len]; omega, hb.grown hg4 hb.size (fun j hj => (ho.lt j hj).1)⟩
        rw [str_bv] at ho4
        have e1 : bv L ++ bv y.data.toList = bv (L ++ y.data.toList) := by simp [bv]
        have e2 : (L ++ y.data.toList).length = L.length + y.size := by rw [List.length_append, bytes_len]
        rw [← e1, e2]
        exact ho4
      case measure => simp [intOf]; omega
    · have hlt' : ¬ (k : Int) < (n : Int) := by omega
      have hcv := conv_ownS ho
      go_wp2_with fail
      go_ret
      exact ⟨⟨_, rfl, by rw [mks]; omega⟩, hb⟩

set_option maxRecDepth 20000 in
theorem sroom_ok {w : World} {q p bs bw : Nat} {s : DevS} {age : Int} {lost : Bool} (h : IsDev w p bs bw s) (hs : SB w q p age lost) (hr : rdy s age lost = true) :
    Calls Try.prog 18 #[.pointer (some ⟨q, 0, none⟩)] w fun e w' => e = .returned (.int .i64 (s.room : Int)) ∧ Below w.heap.size w w' := by
  have c := ready_any h hs
  rw [hr] at c
  have cR := fun W (hW : Below w.heap.size w W) => room_any (h.below hW) (hs.below hW)
  generalize s.room = rm at *
  clear hr
  go_enter Try.func18, Try.ntmps18
  go_wp2_with fail
  refine c.mono ?_
  rintro e w1 ⟨rfl, q1⟩
  go_wp2_with fail
  refine (cR _ q1).mono ?_
  rintro e w2 ⟨rfl, rfl⟩
  go_wp2_with fail
  go_ret
  exact ⟨rfl, q1⟩

theorem nput_dead2 {W0 W : World} {q p bs bw : Nat} {s : DevS} {age : Int} {lost : Bool} (h : NS W0 W q p bs bw s age lost) (hr : Go.Proofs.Ytkmdjhdininimaa.rdy s age lost = false) (x : ByteArray) : Calls Try.prog 24 #[.pointer (some ⟨q, 0, none⟩), .string x] W fun e w' => e = .returned (.int .i64 3) ∧ NS W0 w' q p bs bw s age true ∧ Only [p, bs, bw, q] W w' :=
  (put_dead h.dev h.sh hr x).mono fun _ _ ⟨h1, h2, h3, h4⟩ => ⟨h1, h.only h2 h3 h4, h4⟩
/-! ### The pair -/
structure PD where
  q : Nat
  s : DevS
  age : Int
  dead : Bool
  text : ByteArray
  room : Nat
  lv : Value
  late : List ByteArray
  lost : Bool
def prC (p : Nat) (P : PD) : Array Value := #[.pointer (some ⟨p, 0, none⟩), .pointer (some ⟨P.q, 0, none⟩), .string P.text, .int .i64 (P.room : Int), P.lv, .bool P.lost]
/-- At block b of W lies the pair. -/
structure IsPr (W0 W : World) (g p bs bw : Nat) (P : PD) : Prop extends NS W0 W P.q p bs bw P.s P.age P.dead where
  bx : W.heap[g]? = some (.cells (prC p P) 44)
  lb : W0.heap.size ≤ g
  ow : W.ownsRow W0.heap.size 9 1 P.lv P.late.length (P.late.map .string)
  rm : P.s.room = P.room
theorem own_b {W W' : World} {B e n : Nat} {v : Value} {xs : List Value} (h : W.ownsRow B e 1 v n xs) (hb : Below W.heap.size W W') : W'.ownsRow B e 1 v n xs :=
  h.kept (row := none) ⟨hb.os, hb.tape, hb.output, hb.size, fun k hk _ => hb.block k hk⟩ (by cases v.ownBlock <;> simp)
/-- A row of strings is none of these. -/
theorem own_o {W W' : World} {B n : Nat} {v : Value} {xs : List Value} {S : List Nat} (h : W.ownsRow B 9 1 v n xs) (ho : Only S W W') (hS : ∀ x ∈ S, ∀ cs fz, W.heap[x]? ≠ some (.cells cs 9 fz)) : W'.ownsRow B 9 1 v n xs := by
  refine ⟨h.1, ?_⟩
  rcases h.2 with h1 | ⟨g, cap, cur, h1, h2, h3, h4⟩
  · exact .inl h1
  · refine .inr ⟨g, cap, cur, h1, h2, ?_, h4⟩
    rw [ho.block g (heap_lt h3) (fun hg => hS g hg _ _ h3)]
    exact h3
section
variable {W0 W W' : World} {b p bs bw : Nat} {P P' : PD}
theorem IsPr.no (h : IsPr W0 W b p bs bw P) : ∀ x ∈ [p, bs, bw, P.q], ∀ cs fz, W.heap[x]? ≠ some (.cells cs 9 fz) := by
  intro x hx cs fz e
  simp only [List.mem_cons, List.not_mem_nil, or_false] at hx
  rcases hx with rfl | rfl | rfl | rfl
  · have := h.dev.str; rw [e] at this; injection this with this; injection this with _ h2; cases h2
  · obtain ⟨es, c, hb, _⟩ := h.dev.safe; rw [e] at hb; cases hb
  · obtain ⟨es, c, hb, _⟩ := h.dev.waits; rw [e] at hb; cases hb
  · have : W.heap[P.q]? = _ := h.sh; rw [e] at this; injection this with this; injection this with _ h2; cases h2
theorem IsPr.apart (h : IsPr W0 W b p bs bw P) : b ∉ [p, bs, bw, P.q] := by
  intro hx
  simp only [List.mem_cons, List.not_mem_nil, or_false] at hx
  rcases hx with rfl | rfl | rfl | rfl
  · have := h.dev.str; rw [h.bx] at this; injection this with this; injection this with _ h2; cases h2
  · obtain ⟨es, c, hb, _⟩ := h.dev.safe; rw [h.bx] at hb; cases hb
  · obtain ⟨es, c, hb, _⟩ := h.dev.waits; rw [h.bx] at hb; cases hb
  · have : W.heap[P.q]? = _ := h.sh; rw [h.bx] at this; injection this with this; injection this with _ h2; cases h2
theorem IsPr.below (h : IsPr W0 W b p bs bw P) (hb : Below W.heap.size W W') : IsPr W0 W' b p bs bw P := ⟨h.toNS.below hb, (hb.block b (heap_lt h.bx)).trans h.bx, h.lb, own_b h.ow hb, h.rm⟩
/-- Shelf and device may be others. -/
theorem IsPr.turn {s' : DevS} {age' : Int} {d' : Bool} (h : IsPr W0 W b p bs bw P) (hn : NS W0 W' P.q p bs bw s' age' d') (ho : Only [p, bs, bw, P.q] W W') (hr : s'.n = P.s.n) : IsPr W0 W' b p bs bw { P with s := s', age := age', dead := d' } :=
  ⟨hn, only_heap h.bx ho h.apart, h.lb, own_o h.ow ho h.no, by rw [← h.rm]; exact room_n hr⟩
theorem IsPr.cells (h : IsPr W0 W b p bs bw P) : W.cell? ⟨b, 0, none⟩ = some (.pointer (some ⟨p, 0, none⟩)) ∧ W.cell? ⟨b, 1, none⟩ = some (.pointer (some ⟨P.q, 0, none⟩)) ∧ W.cell? ⟨b, 2, none⟩ = some (.string P.text) ∧ W.cell? ⟨b, 3, none⟩ = some (.int .i64 (P.room : Int)) ∧ W.cell? ⟨b, 4, none⟩ = some P.lv ∧ W.cell? ⟨b, 5, none⟩ = some (.bool P.lost) ∧ ∀ j, W.frozen? ⟨b, j, none⟩ = false :=
  ⟨cell_at h.bx 0, cell_at h.bx 1, cell_at h.bx 2, cell_at h.bx 3, cell_at h.bx 4, cell_at h.bx 5, fun j => frozen_at h.bx j⟩
/-- A cell of the pair is stored. -/
theorem IsPr.put {j : Nat} {v : Value} (h : IsPr W0 W b p bs bw P) (hq : P'.q = P.q) (hs : P'.s = P.s) (ha : P'.age = P.age) (hd : P'.dead = P.dead) (hr : P'.room = P.room) (hc : (prC p P).setIfInBounds j v = prC p P') (hl : P'.lv = P.lv ∧ P'.late = P.late ∨ P'.lv = .slice none 0 0 ∧ P'.late = []) : IsPr W0 (W.setCell ⟨b, j, none⟩ v) b p bs bw P' := by
  have ho : Only [b] W (W.setCell ⟨b, j, none⟩ v) := Only.setCell W (p := ⟨b, j, none⟩) (by simp) v
  have hap := h.apart
  simp at hap
  have hn := h.toNS.kept ho (h.b.trans (ho.below h.b.size (by have := h.lb; simpa using this))) (by simp; omega) (by simp; omega) (by simp; omega) (by simp; omega)
  refine ⟨by rw [hq, hs, ha, hd]; exact hn, by have := heap_setCell h.bx j v; rw [hc] at this; exact this, h.lb, ?_, by rw [hs, hr]; exact h.rm⟩
  rcases hl with ⟨h1, h2⟩ | ⟨h1, h2⟩
  · rw [h1, h2]
    refine own_o h.ow ho (fun x hx cs fz e => ?_)
    simp at hx
    subst hx
    rw [h.bx] at e; injection e with e; injection e with _ h2; cases h2
  · rw [h1, h2]
    exact World.ownsRow_nil _ _ _ _
end

/-- It goes on. -/
structure Live (P : PD) : Prop where
  lost : P.lost = false
  up : P.s.up = true
  age : P.age = P.s.age
  dead : P.dead = false
  calm : P.s.keys = []
  says : Says P.s P.text.data.toList
  late : P.late = [] ∧ P.lv = .slice none 0 0
/-- What is behind any crash. -/
def Safe (P : PD) : Prop := ∀ m, ∃ t ∈ P.text :: P.late, Says (P.s.crashed m) t.data.toList
/-- It is lost. -/
structure Dead (P : PD) : Prop where
  lost : P.lost = true
  dead : P.dead = true
  safe : Safe P
/-- What stands behind a call. -/
def Mid (P : PD) : Prop := Live P ∨ (Safe P ∧ (P.s.up = false ∨ (P.lost = true ∧ P.dead = true)))
def Kept (P : PD) : Prop := Live P ∨ Dead P
theorem Live.rdy {P : PD} (h : Live P) : rdy P.s P.age P.dead = true := by rw [h.age, h.dead, rdy_live]; exact h.up
theorem Live.safe {P : PD} (h : Live P) (h8 : 8 ≤ P.s.n) : Safe P := fun m => ⟨P.text, by simp, h.says.crash h.calm h8 m⟩

set_option maxRecDepth 20000 in
set_option maxHeartbeats 1000000 in
theorem looks_any {W0 W : World} {b p bs bw : Nat} {P : PD} (h : IsPr W0 W b p bs bw P) (hm : Mid P) : Calls Try.prog 23 #[.pointer (some ⟨b, 0, none⟩)] W fun e w' => e = .returned (.bool true) ∧ ∃ P', IsPr W0 w' b p bs bw P' ∧ Kept P' ∧ P'.s.n = P.s.n := by
  rcases hm with hl | ⟨hsf, hd⟩
  · obtain ⟨c0, c1, c2, c3, c4, c5, cz⟩ := h.cells
    have hlo := hl.lost
    have cU := up_any h.dev
    rw [hl.up] at cU
    rw [hlo] at c5
    have k1 : ∀ u : Beh W, u.it.cell? ⟨b, 1, none⟩ = some (.pointer (some ⟨P.q, 0, none⟩)) := fun u => (h.below u.h).cells.2.1
    have k2 : ∀ u : Beh W, u.it.cell? ⟨b, 2, none⟩ = some (.string P.text) := fun u => (h.below u.h).cells.2.2.1
    have k3 : ∀ u : Beh W, u.it.cell? ⟨b, 3, none⟩ = some (.int .i64 (P.room : Int)) := fun u => (h.below u.h).cells.2.2.2.1
    have cG : ∀ u : Beh W, Calls Try.prog 17 #[.pointer (some ⟨P.q, 0, none⟩)] u.it fun e w' => e = .returned (.string P.text) ∧ Below u.it.heap.size u.it w' := fun u => (get_ok (h.below u.h).dev (h.below u.h).sh hl.rdy hl.says.hd).mono fun _ _ ⟨h1, h2⟩ => ⟨by rw [h1, hl.says.tx, mk_data], h2⟩
    have cR : ∀ u : Beh W, Calls Try.prog 18 #[.pointer (some ⟨P.q, 0, none⟩)] u.it fun e w' => e = .returned (.int .i64 (P.room : Int)) ∧ Below u.it.heap.size u.it w' := fun u => (sroom_ok (h.below u.h).dev (h.below u.h).sh hl.rdy).mono fun _ _ ⟨h1, h2⟩ => ⟨by rw [h1, h.rm], h2⟩
    clear hlo c1 c2 c3 c4 cz
    go_enter Try.func23, Try.ntmps23
    go_wp2_with fail
    refine cU.mono ?_
    rintro e w1 ⟨rfl, rfl⟩
    clear cU
    go_upto_region 5 with fail
    refine wp_region_beh (by kernel_rfl) (by kernel_rfl) ?_
    repeat (go_big_quiet_step ((first | (go_at_call 17; exact Beh.call (cG _)) | (go_at_call 18; exact Beh.call (cR _)))))
    refine wpQuiet_nil ?_
    intro wq hw'
    have hwq := Beh.out hw'
    clear hw' cG cR k1 k2 k3
    go_wp2_with fail
    go_ret
    exact ⟨rfl, P, h.below hwq, .inl hl, rfl⟩
  · have hr : rdy P.s P.age P.dead = false := by
      rcases hd with hd | ⟨_, hd⟩
      · exact down_rdy hd _ _
      · rw [hd]; exact lost_rdy _ _
    obtain ⟨c0, c1, c2, c3, c4, c5, cz⟩ := h.cells
    have cU := up_any h.dev
    have cP := nput_dead2 h.toNS hr ⟨#[120]⟩
    have hcase : P.s.up = false ∨ P.s.up = true ∧ P.lost = true := by
      rcases hd with hd | ⟨hd, _⟩
      · exact .inl hd
      · cases hu : P.s.up
        · exact .inl rfl
        · exact .inr ⟨rfl, hd⟩
    clear hd c2 c3 c4
    go_enter Try.func23, Try.ntmps23
    go_upto_region 1 with fail
    go_cut [15] (fun v wx => v = .bool true ∧ W = wx)
    case first =>
      rcases hcase with hu | ⟨hu, hlo⟩
      · rw [hu] at cU
        clear hr hsf cP c5
        go_wp2_with (go_at_call 28; refine cU.mono ?_; rintro e w1 ⟨rfl, rfl⟩)
        go_meet
        exact ⟨rfl, rfl⟩
      · rw [hu] at cU
        rw [hlo] at c5
        clear hr hsf cP hlo hu
        go_wp2_with (go_at_call 28; refine cU.mono ?_; rintro e w1 ⟨rfl, rfl⟩)
        go_meet
        exact ⟨rfl, rfl⟩
    case rest =>
      obtain ⟨rfl, rfl⟩ := hcut
      clear hcase cU
      go_wp2_with fail
      refine cP.mono ?_
      rintro e w1 ⟨rfl, hN1, ho1⟩
      have h1 := h.turn hN1 ho1 rfl
      clear cP c0 c1 c5 cz hN1 ho1
      have hz1 := h1.cells.2.2.2.2.2.2 5
      have hl1 := h1.cells.2.2.2.2.2.1
      have h2 : IsPr W0 (w1.setCell ⟨b, 5, none⟩ (.bool true)) b p bs bw { P with dead := true, lost := true } := h1.put rfl rfl rfl rfl rfl rfl (.inl ⟨rfl, rfl⟩)
      have e1 := h2.cells.2.1
      have cG := nget_no h2.toNS (lost_rdy _ _)
      simp only at e1 cG hl1
      go_wp2_with fail
      refine cG.mono ?_
      rintro e w3 ⟨rfl, hN3, ho3⟩
      have h3 := h2.turn hN3 (ho3.mono (by simp)) rfl
      clear cG h1 hz1 hl1 e1 hN3 ho3
      have e1 := h3.cells.2.1
      have cR := nroom_any h3.toNS
      simp only at e1 cR
      rw [lost_rdy, if_neg (by simp)] at cR
      go_wp2_with fail
      refine cR.mono ?_
      rintro e w4 ⟨rfl, hN4, ho4⟩
      have h4 := h3.turn hN4 (ho4.mono (by simp)) rfl
      clear cR h2 h3 e1 hN4 ho4
      go_wp2_with fail
      go_ret
      exact ⟨rfl, _, h4, .inr ⟨rfl, by simp, hsf⟩, rfl⟩
end Go.Proofs.Ytkmdjhdininimaa
