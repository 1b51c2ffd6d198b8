/-
  An edited editor may be: data. Edit's whole contract.
-/
import Derived.Test.YtcdnlkhjlgaaoaaGreatDoorClH
import Derived.Test.YtcdnlkhjlgaaoaaGreatDoorOtI
namespace Go.Proofs.YtcdnlkhjlgaaoaaGreatDoor
open Go.ChangeShapes Go.WideShapes Go.ChangeAt Go.RowKit Go.PlainAid

theorem wtG_ok : ∀ {l : List EdW} {a q b : Int}, wtG a q l = some b → ∀ e ∈ l, okD e.d = true
  | [], _, _, _, _, e, he => by cases he
  | x :: l, a, q, b, h, e, he => by
    rw [wtG] at h
    split at h
    · rename_i hx
      rcases List.mem_cons.1 he with rfl | he
      · exact hx.1
      · exact wtG_ok h e he
    · cases h
theorem wtG_app : ∀ {l : List EdW} {a q b : Int} (x : EdW), wtG a q l = some b → wtG a q (l ++ [x]) = wtG b (q + l.length) [x]
  | [], a, q, b, x, h => by rw [wtG] at h; cases h; simp
  | y :: l, a, q, b, x, h => by
    rw [wtG] at h
    split at h
    · rename_i hy
      rw [List.cons_append, wtG, if_pos hy, wtG_app x h]
      congr 1
      simp only [List.length_cons]
      omega
    · cases h
theorem map_cp {l : List EdW} (h : ∀ e ∈ l, okD e.d = true) : l.map EdW.cp = l := by
  have : l.map EdW.cp = l.map id := List.map_congr_left (fun e he => cp_ok (h e he))
  rw [this, List.map_id]
theorem may_ok {E : EdD} (hM : May E) : ∀ e ∈ E.p, okD e.d = true := wtG_ok hM.wt
theorem ed_p {E : EdD} {d : List OpD} (hM : May E) : (edE E d).p = E.p ++ [⟨E.s + 1, jn (stR d)⟩] := by
  show E.p.map EdW.cp ++ [EdW.cp ⟨E.s + 1, d⟩] = _
  rw [map_cp (may_ok hM)]
  rfl
theorem may_ed {E : EdD} {d : List OpD} (hM : May E) (hi : ∀ o ∈ d, o.In) (hc : chk d = 0) (hl : (bsum (stR d) : Int) = cpl E.t) (h8 : ¬ (E.p.length = 8 ∨ E.s = 100000)) : mayE (edE E d) = true := by
  have bd := stR_bd d
  obtain ⟨n1, n2, -, n4, n5⟩ := normal_facts (stR_ok hi) bd.1 bd.2
  have hp := ed_p (d := d) hM
  have hap : cpl (edE E d).t = (tsum (stR d) : Int) := by
    show cpl (apR E.t d).1 = _
    rcases apR_cases (s := E.t) hi with ⟨h, -⟩ | ⟨-, -, -, h, -⟩
    · exfalso
      apply h
      rw [apR, if_neg (by have := hM.t0; omega), if_neg (fun h => h hc), if_neg (fun h => h hl)]
    · exact h
  have hlen : (edE E d).p.length = E.p.length + 1 := by rw [hp]; simp
  have p8 := hM.p8
  have ps := hM.ps
  have s1 := hM.s1
  have s0 := hM.s0
  have hbase : baseE (edE E d) = baseE E := by
    unfold baseE
    rw [hp]
    cases hq : E.p with
    | nil => show ((bsum (stR (jn (stR d))) : Nat) : Int) = cpl E.t; rw [n4, hl]
    | cons x q => rfl
  refine (may_iff _).2 ⟨hM.c0, hM.c1, hM.b0, hM.b1, hM.r0, hM.r1, by rw [hap]; omega, by rw [hap]; have := bd.2; omega, ?_, ?_, by rw [hlen]; omega, ?_, ?_⟩
  · show 0 ≤ E.s + 1; omega
  · show E.s + 1 ≤ 100000; omega
  · rw [hlen]; show _ ≤ E.s + 1; omega
  · rw [hbase, hap, hlen, hp]
    have e : (edE E d).s - ((E.p.length + 1 : Nat) : Int) + 1 = E.s - E.p.length + 1 := by show E.s + 1 - _ + 1 = _; omega
    rw [e, wtG_app _ hM.wt, wtG, if_pos ⟨by simp [okD, n1, n2], by show ((bsum (stR (jn (stR d))) : Nat) : Int) = _; rw [n4, hl], by show E.s + 1 = _; omega⟩, wtG]
    show some ((tsum (stR (jn (stR d))) : Nat) : Int) = _
    rw [n5]
theorem fit_ed {E : EdD} {d : List OpD} (hM : May E) (hF : E.Fit) (hi : ∀ o ∈ d, o.In) (hc : chk d = 0) (hl : (bsum (stR d) : Int) = cpl E.t) (h8 : ¬ (E.p.length = 8 ∨ E.s = 100000)) : (edE E d).Fit := by
  have hm := (may_iff _).1 (may_ed hM hi hc hl h8)
  have ht := size_smallL hm.t0 hm.t1
  have hp := ed_p (d := d) hM
  have bd := stR_bd d
  have hj := jn_in (stR_ok hi) bd.1 bd.2
  refine ⟨by have := hm.s0; omega, by have := hm.s1; omega, by omega, by have := hm.p8; unfold maxLen; omega, fun e he => ?_⟩
  rw [hp] at he
  rcases List.mem_append.1 he with he | he
  · exact hF.pf e he
  · have : e = ⟨E.s + 1, jn (stR d)⟩ := by simpa using he
    subst this
    have s0 := hM.s0
    have s1 := hM.s1
    exact ⟨by simp only; omega, by simp only; omega, by have := hj.1; simp only; unfold maxLen; omega, hj.2⟩
theorem chk_sm4 {A : List OpD} (iA : ∀ o ∈ A, o.In) (h : chk A = 0) : ∀ o ∈ A, o.t.size ≤ 4000 := by
  intro o ho
  have hbd := stR_bd A
  have hs : ∃ s, stOf o = some s := by
    have h2 := h
    unfold chk at h2
    split at h2
    · cases h2
    · split at h2
      · cases h2
      · rename_i hn
        cases e : stOf o with
        | some s => exact ⟨s, rfl⟩
        | none => exact absurd (List.any_eq_true.2 ⟨o, ho, by rw [e]; rfl⟩) hn
  obtain ⟨s, hs⟩ := hs
  have hm : s ∈ stR A := by rw [chk_yes _ h]; exact List.mem_filterMap.2 ⟨o, ho, hs⟩
  have hok := stOf_ok (iA o ho) hs
  have hc := c_le hm
  unfold stOf at hs
  split at hs
  · rename_i h0; omega
  · split at hs
    · simp at hs
      subst hs
      have := size_cpl hok.1
      simp only [St.c] at hc
      omega
    · simp at hs
theorem chk_smC {A : List OpD} (iA : ∀ o ∈ A, o.In) (h : chk A = 0) : ∀ o ∈ A, o.t.size ≤ 1048576 := fun o ho => Nat.le_trans (chk_sm4 iA h o ho) (by decide)
/-- Edit's errno from its form: all that can be wrong is its length. -/
theorem enc_ed {E : EdD} (hm : mayE E = true) : (encE E).2 = 0 ∨ (encE E).2 = 201 := by
  unfold encE
  rw [if_pos hm]
  split
  · exact .inr rfl
  · exact .inl rfl
/-- Edit. -/
theorem edit_all (E : EdD) (d : List OpD) (v u : Value) (w : World) (hr : RdEd w v E.p) (hd : RdD w u d) (hV : VS w) (hF : E.Fit) (hdl : d.length ≤ maxLen) (hdi : ∀ o ∈ d, o.In) :
    Calls Tryz.prog 27 #[.agg (E.fs v), u] w fun e w' => ∃ v' us, e = .returned (.tuple #[.agg ((edtE E d).1.fs v'), .int .i64 (edtE E d).2]) ∧ OwEd w' w.heap.size v' (edtE E d).1.p us ∧ Below w.heap.size w w' := by
  unfold edtE
  by_cases hm : mayE E = false
  · rw [if_pos hm]
    refine (edit_form E d v u w hr hd hV hF hdl hdi hm).mono ?_
    rintro e w' ⟨rfl, hb⟩
    exact ⟨_, _, rfl, OwEd.nil _ _, hb⟩
  · rw [if_neg hm]
    have hm' : mayE E = true := by simpa using hm
    have hM := (may_iff E).1 hm'
    by_cases hc : chk d ≠ 0
    · rw [if_pos hc]
      refine (edit_delta E d v u w hr hd hV hF hdl hdi hm' hc).mono ?_
      rintro e w' ⟨rfl, hb⟩
      exact ⟨_, _, rfl, OwEd.nil _ _, hb⟩
    · rw [if_neg hc]
      have hc' : chk d = 0 := Classical.not_not.1 hc
      by_cases hl : (bsum (stR d) : Int) ≠ cpl E.t
      · rw [if_pos hl]
        refine (edit_length E d v u w hr hd hV hF hdl hdi hm' hc' hl).mono ?_
        rintro e w' ⟨rfl, hb⟩
        exact ⟨_, _, rfl, OwEd.nil _ _, hb⟩
      · rw [if_neg hl]
        have hl' : (bsum (stR d) : Int) = cpl E.t := Classical.not_not.1 hl
        by_cases h8 : E.p.length = 8 ∨ E.s = 100000
        · rw [if_pos h8]
          refine (edit_full E d v u w hr hd hV hF hdl hdi hm' hc' hl' h8).mono ?_
          rintro e w' ⟨rfl, hb⟩
          exact ⟨_, _, rfl, OwEd.nil _ _, hb⟩
        · rw [if_neg h8]
          refine (edit_go E d v u w hr hd hV hF hdl hdi hm' hc' hl' h8 (fit_ed hM hF hdi hc' hl' h8)).mono ?_
          rintro e w' ⟨v', us, rfl, h1, h2, h3⟩
          by_cases h0 : (encE (edE E d)).2 = 0
          · rw [if_pos h0, if_neg (fun h => h h0)]
            exact ⟨v', us, by rw [h0], h1 h0, h3⟩
          · rw [if_neg h0, if_pos h0]
            rw [h2 h0]
            exact ⟨_, [], rfl, OwEd.nil _ _, h3⟩
end Go.Proofs.YtcdnlkhjlgaaoaaGreatDoor
