/-
  The scripts of shelf: puts.
-/
import Derived.Test.YtkmdjhdininimaaSsA
namespace Go.Proofs.Ytkmdjhdininimaa
open Go.RowKit Go.Maps

theorem Try.infoS : (Try.prog.info? 9).map (fun i => (i.zero, i.size, i.bytes)) = some (some (.string ⟨#[]⟩), 1, 16) := by kernel_rfl
section
variable {W0 W W' : World} {b p bs bw : Nat} {P P' : PD}
theorem IsPr.putL {v : Value} {late : List ByteArray} (h : IsPr W0 W b p bs bw P) (ho' : W.ownsRow W0.heap.size 9 1 v late.length (late.map .string)) : IsPr W0 (W.setCell ⟨b, 4, none⟩ v) b p bs bw { P with lv := v, late := late } := by
  have ho : Only [b] W (W.setCell ⟨b, 4, none⟩ v) := Only.setCell W (p := ⟨b, 4, none⟩) (by simp) v
  have hap := h.apart
  simp at hap
  have hn := h.toNS.kept ho (h.b.trans (ho.below h.b.size (by have := h.lb; simpa using this))) (by simp; omega) (by simp; omega) (by simp; omega) (by simp; omega)
  refine ⟨hn, heap_setCell h.bx 4 v, h.lb, own_o ho' ho (fun x hx cs fz e => ?_), h.rm⟩
  simp at hx
  subst hx
  rw [h.bx] at e; injection e with e; injection e with _ h2; cases h2
theorem nwait_any (h : IsPr W0 W b p bs bw P) : Calls Try.prog 16 #[.pointer (some ⟨p, 0, none⟩)] W fun e w' => ∃ ao cp, e = .returned (.slice ao P.s.keys.length cp) ∧ Below W.heap.size W w' :=
  (waiting_any h.dev).mono fun e w' ⟨v, h1, h2, _, h4⟩ => by
    obtain ⟨ao, cp, rfl⟩ := own_formS h2
    exact ⟨ao, cp, h1, h4⟩
end
theorem one_newS (wr : World) (x : Value) (e : Nat) : ∀ j u, [x][j]? = some u → (wr.alloc (.cells #[x] e)).cell? ((⟨wr.heap.size, 0, none⟩ : Addr).add j) = some u := by
  intro j u hj
  match j, hj with
  | 0, hj => simp at hj; subst hj; simp [Addr.add]
theorem one_oneS (v : Value) (h : v.oneCell' = true) : ∀ u ∈ [v], u.oneCell' = true := by
  intro u hu
  simp at hu
  rw [hu]
  exact h
section
variable {W0 W : World} {q p bs bw : Nat} {s : DevS}
theorem nput_big (h : NS W0 W q p bs bw s s.age false) (hu : s.up = true) (hk : HdOk s (s.readAt 0)) (x : ByteArray) (hl : s.room < x.size) : Calls Try.prog 24 #[.pointer (some ⟨q, 0, none⟩), .string x] W fun e w' => e = .returned (.int .i64 (if 40000 < x.size then 2 else 4)) ∧ NS W0 w' q p bs bw s s.age false ∧ Only [p, bs, bw, q] W w' := by
  have e0 : s.rmE x.data.toList.length = if 40000 < x.size then 2 else 4 := by
    rw [bytes_len]
    unfold DevS.rmE
    rw [if_pos hl]
  have e1 : s.rmE x.data.toList.length ≠ 0 ∧ s.rmE x.data.toList.length ≠ 3 := by rw [e0]; split <;> decide
  have e2 : putE s s.age false x.data.toList = (s.rmE x.data.toList.length, s) := by unfold putE; rw [if_pos (by rw [rdy_live]; exact hu), if_neg e1.1]
  have c := nput_any h hk x.data.toList
  rw [mk_data] at c
  refine c.mono fun e w' ⟨h1, h2, h3⟩ => ?_
  rw [e2] at h1 h2
  have e3 : (false || decide ((s.rmE x.data.toList.length, s).1 = 3)) = false := by rw [Bool.false_or]; exact decide_eq_false e1.2
  rw [e3] at h2
  exact ⟨by rw [h1]; show Ending.returned (.int .i64 (s.rmE x.data.toList.length)) = _; rw [e0], h2, h3⟩
theorem nput_livex {t : List UInt8} (h : NS W0 W q p bs bw s s.age false) (hu : s.up = true) (hk : s.keys = []) (ht : Says s t) (x : ByteArray) (hl : x.size ≤ s.room) : Calls Try.prog 24 #[.pointer (some ⟨q, 0, none⟩), .string x] W fun e w' => ∃ s', s'.n = s.n ∧ s'.age = s.age ∧ Only [p, bs, bw, q] W w' ∧
    ((e = .returned (.int .i64 0) ∧ NS W0 w' q p bs bw s' s.age false ∧ s'.keys = [] ∧ Says s' x.data.toList) ∨
     (e = .returned (.int .i64 3) ∧ NS W0 w' q p bs bw s' s.age true ∧ s'.up = false ∧ ∀ m, Says (s'.crashed m) t ∨ Says (s'.crashed m) x.data.toList)) := by
  have c := nput_live h hu hk ht x.data.toList (by rw [bytes_len]; exact hl)
  rw [mk_data] at c
  refine c.mono fun e w' ⟨s', h1, h2, h3, h4⟩ => ⟨s', h1, h2, h3, ?_⟩
  rcases h4 with ⟨e1, e2, _, e4, e5⟩ | ⟨e1, e2, e3, _, e5⟩
  · exact .inl ⟨e1, e2, e4, e5⟩
  · exact .inr ⟨e1, e2, e3, e5⟩
end

set_option maxRecDepth 20000 in
set_option maxHeartbeats 1000000 in
theorem puts_any {W0 W : World} {b p bs bw : Nat} {P : PD} (h : IsPr W0 W b p bs bw P) (hk : Kept P) (x : ByteArray) (hx : x.size ≤ 600000) : Calls Try.prog 19 #[.pointer (some ⟨b, 0, none⟩), .string x] W fun e w' => e = .returned (.bool true) ∧ ∃ P', IsPr W0 w' b p bs bw P' ∧ Mid P' ∧ P'.s.n = P.s.n := by
  rcases hk with hl | hd
  · obtain ⟨c0, c1, c2, c3, c4, c5, cz⟩ := h.cells
    have cU := up_any h.dev
    rw [hl.up] at cU
    rw [hl.lost] at c5
    have cW := nwait_any h
    rw [hl.calm] at cW
    clear c2 c3 c4 cz
    go_enter Try.func19, Try.ntmps19
    go_wp2_with fail
    refine cU.mono ?_
    rintro e w1 ⟨rfl, rfl⟩
    clear cU
    go_wp2_with fail
    refine cW.mono ?_
    rintro e w2 ⟨ao, cp, rfl, hb2⟩
    have h2 := h.below hb2
    clear cW c0 c1 c5 h hb2
    have e1 := h2.cells.2.1
    have hN2 : NS W0 w2 P.q p bs bw P.s P.s.age false := by have := h2.toNS; rw [hl.age, hl.dead] at this; exact this
    by_cases hbig : P.s.room < x.size
    · have cP := nput_big hN2 hl.up hl.says.hd x hbig
      have hrm := h2.rm
      obtain ⟨er, her⟩ : ∃ er : Int, er = if 40000 < x.size then 2 else 4 := ⟨_, rfl⟩
      rw [← her] at cP
      go_wp2_with fail
      refine cP.mono ?_
      rintro e w3 ⟨rfl, hN3, ho3⟩
      have h3 := h2.turn (age' := P.age) (d' := P.dead) (by rw [hl.age, hl.dead]; exact hN3) ho3 rfl
      have h3 : IsPr W0 w3 b p bs bw P := h3
      clear cP h2 hN2 hN3 ho3 e1
      obtain ⟨c0, -, -, c3, -, -, -⟩ := h3.cells
      have cW := nwait_any h3
      rw [hl.calm] at cW
      by_cases h4 : 40000 < x.size
      · rw [if_pos h4] at her
        subst her
        have h4' : (40000 : Int) < (x.size : Int) := by omega
        go_wp2_with fail
        refine cW.mono ?_
        rintro e w4 ⟨a4, k4, rfl, hb4⟩
        go_wp2_with fail
        go_ret
        exact ⟨rfl, P, h3.below hb4, .inl hl, rfl⟩
      · rw [if_neg h4] at her
        subst her
        have h4' : ¬ (40000 : Int) < (x.size : Int) := by omega
        have h5' : (P.room : Int) < (x.size : Int) := by omega
        go_wp2_with fail
        refine cW.mono ?_
        rintro e w4 ⟨a4, k4, rfl, hb4⟩
        go_wp2_with fail
        go_ret
        exact ⟨rfl, P, h3.below hb4, .inl hl, rfl⟩
    · have cP := nput_livex hN2 hl.up hl.calm hl.says x (by omega)
      have hrm := h2.rm
      have hrl := room_lt P.s
      have h4' : ¬ (40000 : Int) < (x.size : Int) := by omega
      have h5' : ¬ (P.room : Int) < (x.size : Int) := by omega
      go_wp2_with fail
      refine cP.mono ?_
      rintro e w3 ⟨s3, hn3, ha3, ho3, hor⟩
      rcases hor with ⟨rfl, hN3, hk3, hs3⟩ | ⟨rfl, hN3, hu3, hs3⟩
      · have h3 := h2.turn hN3 ho3 hn3
        clear cP h2 hN2 ho3 e1 hrm hrl
        obtain ⟨-, -, c2, c3, -, -, cz⟩ := h3.cells
        have z2 := cz 2
        simp only at c2 c3 z2
        have h4 : IsPr W0 (w3.setCell ⟨b, 2, none⟩ (.string x)) b p bs bw { P with s := s3, age := P.s.age, dead := false, text := x } := h3.put rfl rfl rfl rfl rfl rfl (.inl ⟨rfl, rfl⟩)
        obtain ⟨-, -, -, -, c4, -, dz⟩ := h4.cells
        have z4 := dz 4
        simp only at c4 z4
        have h5 : IsPr W0 ((w3.setCell ⟨b, 2, none⟩ (.string x)).setCell ⟨b, 4, none⟩ (.slice none 0 0)) b p bs bw { P with s := s3, age := P.s.age, dead := false, text := x, lv := .slice none 0 0, late := [] } := h4.put rfl rfl rfl rfl rfl rfl (.inr ⟨rfl, rfl⟩)
        clear cz dz
        go_wp2_with fail
        go_ret
        refine ⟨rfl, _, h5, ?_, hn3⟩
        cases hup : s3.up with
        | true => exact .inl ⟨hl.lost, hup, ha3.symm, rfl, hk3, hs3, ⟨rfl, rfl⟩⟩
        | false => exact .inr ⟨fun m => ⟨x, by simp, hs3.crash hk3 hN3.dev.lo m⟩, .inl hup⟩
      · have h3 := h2.turn hN3 ho3 hn3
        clear cP h2 hN2 ho3 e1 hrm hrl
        obtain ⟨-, -, -, c3, c4, -, cz⟩ := h3.cells
        have hlv := hl.late
        simp only at c3 c4
        rw [hlv.2] at c4
        obtain ⟨i0, hin, hz0, hz1, hz2⟩ := info_parts Try.infoS
        have how := h3.ow
        simp only at how
        rw [hlv.1, hlv.2] at how
        go_wp2_with (first | (at_builtin; refine wpList_append_own _ rfl (.tmp 83) (.tmp 85) 42 rfl W0.heap.size 9 i0 (.string ⟨#[]⟩) 1 16 Try.underlying42 hin hz0 hz1 hz2 rfl (by decide) (.slice none 0 0) 0 [] rfl (how.alloc _) ⟨w3.heap.size, 0, none⟩ 1 1 [.string x] rfl rfl (one_newS _ _ _) (one_oneS _ rfl) (by unfold maxLen; simp) (by simp) (by have := h3.b.size; simp; omega) ?_; intro v4 w4 ho4 hg4 _; replace ho4 : w4.ownsRow W0.heap.size 9 1 v4 1 [.string x] := ho4; obtain ⟨a4, k4, rfl⟩ := own_formS ho4; have hb4 : Below w3.heap.size w3 w4 := ((Below.refl _ w3).alloc (Nat.le_refl _) _).grown hg4 (by simp) (fun k hk => by simp [Value.ownBlock] at hk); have h4 := h3.below hb4; have q4 := h4.cells.2.2.2.2.1; have z4 := h4.cells.2.2.2.2.2.2 4; have h5 := h4.putL (late := [x]) ho4; have q5 := h5.cells.2.2.2.2.2.1; have z5 := h5.cells.2.2.2.2.2.2 5; simp only at q4 q5; have h6 : IsPr W0 ((w4.setCell ⟨b, 4, none⟩ (.slice a4 1 k4)).setCell ⟨b, 5, none⟩ (.bool true)) b p bs bw { P with s := s3, age := P.s.age, dead := true, lv := .slice a4 1 k4, late := [x], lost := true } := h5.put rfl rfl rfl rfl rfl rfl (.inl ⟨rfl, rfl⟩); have q6 := h6.cells.1; have cU := up_any h6.dev; simp only at cU; rw [hu3] at cU; go_frame))
        refine cU.mono ?_
        rintro e w5 ⟨rfl, rfl⟩
        go_wp2_with fail
        go_ret
        refine ⟨rfl, _, h6, .inr ⟨fun m => ?_, .inr ⟨rfl, rfl⟩⟩, hn3⟩
        rcases hs3 m with e | e
        · exact ⟨P.text, by simp, e⟩
        · exact ⟨x, by simp, e⟩
  · obtain ⟨c0, c1, c2, c3, c4, c5, cz⟩ := h.cells
    have cU := up_any h.dev
    rw [hd.lost] at c5
    have cW := nwait_any h
    clear c2 c3 c4
    go_enter Try.func19, Try.ntmps19
    go_upto_region 1 with fail
    go_cut [5] (fun v wx => v = .bool false ∧ W = wx)
    case first =>
      cases hu : P.s.up with
      | false =>
        rw [hu] at cU
        clear cW c5 c1
        go_wp2_with (go_at_call 28; refine cU.mono ?_; rintro e w1 ⟨rfl, rfl⟩)
        go_meet
        exact ⟨rfl, rfl⟩
      | true =>
        rw [hu] at cU
        clear cW c1
        go_wp2_with (go_at_call 28; refine cU.mono ?_; rintro e w1 ⟨rfl, rfl⟩)
        go_meet
        exact ⟨rfl, rfl⟩
    case rest =>
      obtain ⟨rfl, rfl⟩ := hcut
      clear cU
      go_wp2_with fail
      refine cW.mono ?_
      rintro e w2 ⟨ao, cp, rfl, hb2⟩
      have h2 := h.below hb2
      clear cW c0 c1 c5 h hb2 cz
      have e1 := h2.cells.2.1
      have cP := nput_dead2 h2.toNS (by rw [hd.dead]; exact lost_rdy _ _) x
      go_wp2_with fail
      refine cP.mono ?_
      rintro e w3 ⟨rfl, hN3, ho3⟩
      have h3 := h2.turn hN3 ho3 rfl
      have z5 := h3.cells.2.2.2.2.2.2 5
      have q5 := h3.cells.2.2.2.2.2.1
      simp only at q5
      have h4 : IsPr W0 (w3.setCell ⟨b, 5, none⟩ (.bool true)) b p bs bw { P with dead := true, lost := true } := h3.put rfl rfl rfl rfl rfl rfl (.inl ⟨rfl, rfl⟩)
      clear cP h2 e1 hN3 ho3
      go_wp2_with fail
      go_ret
      exact ⟨rfl, _, h4, .inr ⟨hd.safe, .inr ⟨rfl, rfl⟩⟩, rfl⟩
end Go.Proofs.Ytkmdjhdininimaa
