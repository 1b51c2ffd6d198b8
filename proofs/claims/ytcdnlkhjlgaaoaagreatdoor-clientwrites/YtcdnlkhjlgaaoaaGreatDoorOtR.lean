/-
  The contract of withSome.
-/
import Derived.Test.YtcdnlkhjlgaaoaaGreatDoorOtF
namespace Go.Proofs.YtcdnlkhjlgaaoaaGreatDoor
open Go.ChangeShapes Go.WideShapes Go.ChangeAt Go.RowKit Go.PlainAid

/-- Does an operation do something? -/
def OpD.does (o : OpD) : Bool := decide (0 < o.n) || decide (o.t.size ≠ 0)

/-- withSome on its way: the delta lies where it lay, or in a new block. -/
structure Ws (B : Nat) (w W : World) (d0 d : Value) (D : List OpD) : Prop where
  own : W.ownsRow B 59 3 d D.length (ocs D)
  only : Only d0.ownBlock.toList w W
  lies : ∀ g, d.ownBlock = some g → d0.ownBlock = some g ∨ w.heap.size ≤ g

theorem Ws.app {B : Nat} {w W W' : World} {d0 d : Value} {D : List OpD} {o : OpD} {x : Obj} {g cap : Nat} (h : Ws B w W d0 d D)
    (ho : W'.ownsRow B 59 3 (.slice (some ⟨g, 0, none⟩) (D.length + 1) cap) (D.length + 1) (ocs D ++ [Value.int .i64 o.k, .int .i64 o.n, .string o.t])) (hg : (W.alloc x).grownBy W' d.ownBlock) (hl : d.ownBlock = some g ∨ g = W.heap.size + 1) :
    Ws B w W' d0 (.slice (some ⟨g, 0, none⟩) (D.length + 1) cap) (D ++ [o]) := by
  have hO : Only d.ownBlock.toList W W' := (Only.alloc _ W x).trans (Only.of_grown hg (fun k e => by simp [e]))
  refine ⟨own_op ho rfl, h.only.new hO (fun i hi => ?_), fun g' e => ?_⟩
  · have := h.lies i (by simpa using hi)
    exact this.imp (fun e => by simp [e]) id
  · have e' : g = g' := by simpa [Value.ownBlock] using e
    subst e'
    rcases hl with hl | hl
    · exact h.lies g hl
    · have := h.only.size; exact .inr (by omega)

theorem many_newT (wr : World) (X : Obj) (l : List Value) (e : Nat) : ∀ j u, l[j]? = some u → ((wr.alloc X).alloc (.cells l.toArray e)).cell? ((⟨wr.heap.size + 1, 0, none⟩ : Addr).add j) = some u := by
  have := many_new (wr.alloc X) l e
  rw [World.size_alloc] at this
  exact this

set_option maxRecDepth 20000 in
set_option maxHeartbeats 2000000 in
theorem withSome_any (B : Nat) (d v : Value) (D M : List OpD) (w : World) (hB : B ≤ w.heap.size) (hd : w.ownsRow B 59 3 d D.length (ocs D)) (hr : RdD w v M) (hap : ∀ g, v.ownBlock = some g → d.ownBlock ≠ some g) (hD : D.length ≤ 100000) (hM : M.length ≤ 1000) :
    Calls Tryz.prog 109 #[d, v] w fun e w' => ∃ u, e = .returned u ∧ Ws B w w' d u (D ++ M.filter OpD.does) := by
  obtain ⟨i0, hin, hz0, hz1, hz2⟩ := info_parts Tryz.infoOp
  have hW : Ws B w w d d D := ⟨hd, Only.refl _ _, fun g e => .inl e⟩
  have hrd : ∀ W, Only d.ownBlock.toList w W → RdD W v M := fun W ho => rdd_only hr ho (fun g e hm => hap g e (by simpa using hm))
  obtain ⟨ao, cp, rfl, _⟩ := id hr
  go_enter Tryz.func109, Tryz.ntmps109
  go_wp2_with fail
  go_loopw [0, 6, 9] (fun u _ i wr => ∃ k : Nat, k ≤ M.length ∧ i = .int .i64 (k : Int) ∧ Ws B w wr d u (D ++ (M.take k).filter OpD.does)) (fun _ _ i _ => M.length - (intOf i).toNat)
  case atStart => exact ⟨0, by omega, rfl, by simpa using hW⟩
  case round =>
    obtain ⟨k, hk, rfl, hw⟩ := hrel
    by_cases c : k < M.length
    · have c' : (k : Int) < (M.length : Int) := by omega
      obtain ⟨_, _, e1, _, hcs⟩ := hrd wr hw.only
      obtain ⟨b, off, e2, hb, c0, c1, c2⟩ := hcs k M[k] (by simp [c])
      simp at e1
      obtain ⟨rfl, rfl⟩ := e1
      subst e2
      clear hcs
      have HF : Hid ((M.take (k + 1)).filter OpD.does = (M.take k).filter OpD.does ++ (if M[k].does then [M[k]] else [])) := by
        show _ = _
        rw [List.take_succ_eq_append_getElem c, List.filter_append]
        congr 1
        by_cases h : M[k].does <;> simp [h]
      have hlen : ((M.take k).filter OpD.does).length ≤ 1000 := Nat.le_trans (List.length_filter_le _ _) (by rw [List.length_take]; omega)
      have hLl : (D ++ (M.take k).filter OpD.does).length ≤ 101000 := by rw [List.length_append]; omega
      generalize hML : M[k] = o at *
      clear hML
      have hFF : Hid (D ++ (M.take (k + 1)).filter OpD.does = (D ++ (M.take k).filter OpD.does) ++ (if o.does then [o] else [])) := by show _ = _; rw [HF.out, List.append_assoc]
      clear HF hlen
      generalize D ++ (M.take k).filter OpD.does = L at *
      obtain ⟨ao5, cp5, rfl⟩ := own_form hw.own
      have hV : Ws B w (wr.alloc (.cells #[.int .i64 o.k, .int .i64 o.n, .string o.t] 59)) d (.slice ao5 L.length cp5) L := ⟨hw.own.alloc _, hw.only.trans (Only.alloc _ _ _), hw.lies⟩
      clear hr hrd hW hw hap
      by_cases p1 : 0 < o.n
      · have HP : Hid (o.does = true) := by show _ = _; simp [OpD.does, p1]
        go_wp2_with (at_builtin; refine wpList_append_lies _ rfl (.tmp 21) (.tmp 23) 39 rfl B 59 i0 (.agg #[.int .i64 0, .int .i64 0, .string ⟨#[]⟩]) 3 32 Tryz.underlying39 hin hz0 hz1 hz2 rfl (by decide) (.slice ao5 L.length cp5) L.length (ocs L) rfl (hV.own.alloc _) ⟨_, 0, none⟩ 1 1 [.int .i64 o.k, .int .i64 o.n, .string o.t] rfl rfl (many_newT _ _ _ _) (three_one _ _ _) (by decide) (by unfold maxLen; omega) (by omega) (by have := hV.only.size; simp at this ⊢; omega) _ rfl ?_; intro g9 c9 w9 ho9 hg9 hl9 _; have hZ := hV.app (o := o) ho9 hg9 (hl9.imp id (fun e => by rw [e, World.size_alloc])); clear ho9 hg9 hl9)
        refine ⟨⟨k + 1, by omega, by go_num, ?_⟩, by simp only [intOf]; omega⟩
        rw [hFF.out, if_pos HP.out]
        exact hZ
      · by_cases p2 : o.t.size = 0
        · have HP : Hid (¬ o.does = true) := by show ¬ _; simp [OpD.does, p1, p2]
          have p3 : o.t = ⟨#[]⟩ := empty_eq p2
          have hV2 := hV
          rw [p3] at hV2
          go_wp2_with fail
          refine ⟨⟨k + 1, by omega, by go_num, ?_⟩, by simp only [intOf]; omega⟩
          rw [hFF.out, if_neg HP.out, List.append_nil]
          exact hV2
        · have HP : Hid (o.does = true) := by show _ = _; simp [OpD.does, p2]
          have p3 := empty_ff p2
          go_wp2_with (at_builtin; refine wpList_append_lies _ rfl (.tmp 21) (.tmp 23) 39 rfl B 59 i0 (.agg #[.int .i64 0, .int .i64 0, .string ⟨#[]⟩]) 3 32 Tryz.underlying39 hin hz0 hz1 hz2 rfl (by decide) (.slice ao5 L.length cp5) L.length (ocs L) rfl (hV.own.alloc _) ⟨_, 0, none⟩ 1 1 [.int .i64 o.k, .int .i64 o.n, .string o.t] rfl rfl (many_newT _ _ _ _) (three_one _ _ _) (by decide) (by unfold maxLen; omega) (by omega) (by have := hV.only.size; simp at this ⊢; omega) _ rfl ?_; intro g9 c9 w9 ho9 hg9 hl9 _; have hZ := hV.app (o := o) ho9 hg9 (hl9.imp id (fun e => by rw [e, World.size_alloc])); clear ho9 hg9 hl9)
          refine ⟨⟨k + 1, by omega, by go_num, ?_⟩, by simp only [intOf]; omega⟩
          rw [hFF.out, if_pos HP.out]
          exact hZ
    · obtain rfl : k = M.length := by omega
      go_wp2_with fail
      go_ret
      refine ⟨_, rfl, ?_⟩
      rw [List.take_length] at hw
      exact hw
end Go.Proofs.YtcdnlkhjlgaaoaaGreatDoor
