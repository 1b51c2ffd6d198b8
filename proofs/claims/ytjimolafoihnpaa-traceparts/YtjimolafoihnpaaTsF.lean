/-
  goOn goes through and keeps what is kept.
-/
import Derived.Test.YtjimolafoihnpaaTsE
namespace Go.Proofs.Ytjimolafoihnpaa.tc
open Go.Maps Go.ChangeShapes Go.WideShapes Go.ChangeAt Go.RowKit Go.PlainAid

theorem getD_set (l : List Nat) (i j a : Nat) (h : i < l.length) : (l.set i a).getD j 0 = if i = j then a else l.getD j 0 := by
  rw [List.getD_eq_getElem?_getD, List.getD_eq_getElem?_getD]
  by_cases e : i = j
  · subst e
    rw [List.getElem?_set_self h, if_pos rfl]
    rfl
  · rw [List.getElem?_set_ne e, if_neg e]
theorem getD_some {l : List Nat} {i a : Nat} (h : l[i]? = some a) : l.getD i 0 = a := by rw [List.getD_eq_getElem?_getD, h]; rfl
theorem drop_hd {l : List Nat} {i n : Nat} (h : l[i]? = some n) : n ∈ l.drop i := by
  rw [List.mem_iff_getElem?]
  exact ⟨0, by rw [List.getElem?_drop]; exact h⟩
theorem drop_cons {l : List Nat} {i n : Nat} (h : l[i]? = some n) : l.drop i = n :: l.drop (i + 1) := by
  have hi := (List.getElem?_eq_some_iff.1 h).1
  rw [List.drop_eq_getElem_cons hi]
  congr 1
  exact (List.getElem?_eq_some_iff.1 h).2
theorem take_snoc {l : List Nat} {i n : Nat} (h : l[i]? = some n) : l.take (i + 1) = l.take i ++ [n] := by
  have hi := (List.getElem?_eq_some_iff.1 h).1
  rw [List.take_succ_eq_append_getElem hi]
  congr 2
  exact (List.getElem?_eq_some_iff.1 h).2
/-- A document comes and waits. -/
theorem Iv.wait {D : List (List (Nat × Int))} {m : Nat} {s : Gs} {Pd Gr : List Nat} {d n c : Nat} (h : Iv D m s (d :: Pd) Gr) (hn : (nmD D d)[atd s d]? = some n) (hnm : n < m) (hc : s.cm[n]? = some c) (hl : c + 1 < (rsH (hvD D) n).length) :
    Iv D m { s with cm := s.cm.set n (c + 1) } Pd Gr := by
  have hs : (s.lt ++ Pd ++ Gr).Sublist (s.lt ++ (d :: Pd) ++ Gr) := ((List.sublist_cons_self d Pd).append_left s.lt).append_right Gr
  have hdn : d ∉ s.lt ++ Pd ++ Gr := by
    have hp : (s.lt ++ (d :: Pd) ++ Gr).Perm (d :: (s.lt ++ Pd ++ Gr)) := by
      rw [List.append_assoc, List.append_assoc]
      exact List.perm_middle
    exact (List.nodup_cons.1 (hp.nodup_iff.1 h.nd)).1
  have hdD : d < D.length := h.lt d (by simp)
  have hdG : d ∉ Gr := fun q => hdn (by simp [q])
  have hnr : n ∉ s.row := fun q => h.nx d n q hdG (drop_hd hn)
  have hcl : n < s.cm.length := by rw [h.lc]; exact hnm
  refine { h with lc := by simp [h.lc], nd := h.nd.sublist hs, lt := fun e he => h.lt e (hs.subset he), cnt := fun k hk hr => ?_, cl := fun k hk hr h0 => ?_ }
  · show (s.cm.set n (c + 1)).getD k 0 = _
    rw [getD_set _ _ _ _ hcl]
    by_cases hkn : n = k
    · subst hkn
      rw [if_pos rfl]
      have h1 := h.cnt n hk hr
      rw [getD_some hc] at h1
      have h2 := filt_one (p := fun e => decide (e ∉ s.lt ++ (d :: Pd) ++ Gr) && ((nmD D e)[atd s e]? == some n)) (p' := fun e => decide (e ∉ s.lt ++ Pd ++ Gr) && ((nmD D e)[atd s e]? == some n)) (d := d) (List.range D.length) List.nodup_range (List.mem_range.2 hdD) (by simp) (by simp only [hn, hdn]; simp) (fun e _ hed => by
        have : e ∉ s.lt ++ (d :: Pd) ++ Gr ↔ e ∉ s.lt ++ Pd ++ Gr := by simp [hed]
        simp only [this])
      show c + 1 = (wt D s (s.lt ++ Pd ++ Gr) n).length
      rw [wt, h2, h1]
      rfl
    · rw [if_neg hkn, h.cnt k hk hr]
      congr 1
      apply wt_congr
      intro e _
      show _ ↔ e ∉ s.lt ++ Pd ++ Gr ∧ (nmD D e)[atd s e]? = some k
      by_cases hed : e = d
      · subst hed
        rw [hn]
        simp [hkn]
      · simp [hed]
  · show (s.cm.set n (c + 1)).getD k 0 < _
    rw [getD_set _ _ _ _ hcl]
    split
    · rename_i e; subst e; exact hl
    · exact h.cl k hk hr h0
/-- A name is complete. -/
theorem Iv.full {D : List (List (Nat × Int))} {m : Nat} {s : Gs} {Pd Gr : List Nat} {d n c : Nat} (h : Iv D m s (d :: Pd) Gr) (hn : (nmD D d)[atd s d]? = some n) (hnm : n < m) (hc : s.cm[n]? = some c) (hl : c + 1 = (rsH (hvD D) n).length) :
    Iv D m { s with cm := s.cm.set n (c + 1), row := s.row ++ [n] } Pd (rsH (hvD D) n ++ Gr) := by
  have hp : (s.lt ++ (d :: Pd) ++ Gr).Perm (d :: (s.lt ++ Pd ++ Gr)) := by
    rw [List.append_assoc, List.append_assoc]
    exact List.perm_middle
  obtain ⟨hdn, hnd0⟩ := List.nodup_cons.1 (hp.nodup_iff.1 h.nd)
  have hdD : d < D.length := h.lt d (by simp)
  have hdG : d ∉ Gr := fun q => hdn (by simp [q])
  have hnr : n ∉ s.row := fun q => h.nx d n q hdG (drop_hd hn)
  have hcl : n < s.cm.length := by rw [h.lc]; exact hnm
  have hcw := h.cnt n hnm hnr
  rw [getD_some hc] at hcw
  have hdW : d ∉ wt D s (s.lt ++ (d :: Pd) ++ Gr) n := fun q => (wt_mem.1 q).2.1 (by simp)
  have hWn : (wt D s (s.lt ++ (d :: Pd) ++ Gr) n).Nodup := List.nodup_range.filter _
  have hall : ∀ o ∈ d :: wt D s (s.lt ++ (d :: Pd) ++ Gr) n, (nmD D o)[atd s o]? = some n := fun o ho => by
    rcases List.mem_cons.1 ho with rfl | ho
    · exact hn
    · exact (wt_mem.1 ho).2.2
  obtain ⟨hHn, hHs⟩ := sub_eq (d :: wt D s (s.lt ++ (d :: Pd) ++ Gr) n) (rsH (hvD D) n) (List.nodup_cons.2 ⟨hdW, hWn⟩) (fun o ho => hv_mem.2 (List.mem_of_getElem? (hall o ho))) (by rw [List.length_cons]; omega)
  have hst : ∀ o ∈ rsH (hvD D) n, (nmD D o)[atd s o]? = some n := fun o ho => hall o (hHs o ho)
  have hno : ∀ o ∈ rsH (hvD D) n, o ∉ s.lt ++ Pd ++ Gr := fun o ho => by
    rcases List.mem_cons.1 (hHs o ho) with rfl | h1
    · exact hdn
    · intro q
      exact (wt_mem.1 h1).2.1 (hp.mem_iff.2 (by simp only [List.mem_cons]; exact .inr q))
  have hout : ∀ o, o ∉ rsH (hvD D) n → n ∉ nmD D o := fun o ho q => ho (hv_mem.2 q)
  have honce : ∀ o ∈ rsH (hvD D) n, n ∉ (nmD D o).drop (atd s o + 1) := fun o ho q => by
    have h1 := hv_once (o := o) hHn
    have h2 : nmD D o = (nmD D o).take (atd s o) ++ n :: (nmD D o).drop (atd s o + 1) := by
      rw [← drop_cons (hst o ho), List.take_append_drop]
    rw [h2, List.count_append, List.count_cons_self] at h1
    have h3 := List.count_pos_iff.2 q
    omega
  have hG : ∀ o, o ∉ rsH (hvD D) n ++ Gr → o ∉ rsH (hvD D) n ∧ o ∉ Gr := fun o ho => ⟨fun q => ho (by simp [q]), fun q => ho (by simp [q])⟩
  have hHG : ∀ o ∈ rsH (hvD D) n, o ∉ Gr := fun o ho q => hno o ho (by simp [q])
  refine { h with lc := by simp [h.lc], nd := ?_, lt := fun e he => ?_, cnt := fun k hk hr => ?_, cl := fun k hk hr h0 => ?_, ps := fun e x hx => ?_, gr := fun e he => ?_, nx := fun e x hx he => ?_, nx2 := fun e he x hx => ?_, rn := ?_, rl := fun x hx => ?_, sb := fun e he => ?_, sb2 := fun e he => ?_ }
  · show (s.lt ++ Pd ++ (rsH (hvD D) n ++ Gr)).Nodup
    have e1 : (s.lt ++ Pd ++ (rsH (hvD D) n ++ Gr)).Perm (rsH (hvD D) n ++ (s.lt ++ Pd ++ Gr)) := by
      rw [← List.append_assoc, ← List.append_assoc]
      exact List.perm_append_comm.append_right Gr
    refine e1.nodup_iff.2 (List.nodup_append.2 ⟨hHn, hnd0, fun a ha b hb hab => ?_⟩)
    subst hab
    exact hno a ha hb
  · have he' : e ∈ s.lt ++ Pd ++ (rsH (hvD D) n ++ Gr) := he
    by_cases hH : e ∈ rsH (hvD D) n
    · exact hv_lt hH
    · refine h.lt e ?_
      simp only [List.mem_append, List.mem_cons] at he' ⊢
      rcases he' with (q | q) | q | q
      · simp [q]
      · simp [q]
      · exact absurd q hH
      · simp [q]
  · have hr' : k ∉ s.row ++ [n] := hr
    have hkn : ¬ n = k := fun q => hr' (by simp [q])
    have hkr : k ∉ s.row := fun q => hr' (by simp [q])
    show (s.cm.set n (c + 1)).getD k 0 = (wt D s (s.lt ++ Pd ++ (rsH (hvD D) n ++ Gr)) k).length
    rw [getD_set _ _ _ _ hcl, if_neg hkn, h.cnt k hk hkr]
    congr 1
    apply wt_congr
    intro e _
    by_cases hH : e ∈ rsH (hvD D) n
    · rw [hst e hH]
      simp [hkn]
    · have hed : ¬ e = d := by
        rintro rfl
        exact hH (hv_mem.2 (List.mem_of_getElem? hn))
      simp [hH, hed]
  · have hr' : k ∉ s.row ++ [n] := hr
    have hkn : ¬ n = k := fun q => hr' (by simp [q])
    have hkr : k ∉ s.row := fun q => hr' (by simp [q])
    show (s.cm.set n (c + 1)).getD k 0 < _
    rw [getD_set _ _ _ _ hcl, if_neg hkn]
    exact h.cl k hk hkr h0
  · exact List.mem_append_left _ (h.ps e x hx)
  · rcases List.mem_append.1 he with he | he
    · exact ⟨n, by simp, hst e he⟩
    · obtain ⟨y, h1, h2⟩ := h.gr e he
      exact ⟨y, List.mem_append_left _ h1, h2⟩
  · obtain ⟨h1, h2⟩ := hG e he
    rcases List.mem_append.1 hx with hx | hx
    · exact h.nx e x hx h2
    · obtain rfl := List.mem_singleton.1 hx
      exact fun q => hout e h1 (List.mem_of_mem_drop q)
  · rcases List.mem_append.1 hx with hx | hx
    · rcases List.mem_append.1 he with he | he
      · intro q
        refine h.nx e x hx (hHG e he) ?_
        rw [drop_cons (hst e he)]
        exact List.mem_cons_of_mem _ q
      · exact h.nx2 e he x hx
    · obtain rfl := List.mem_singleton.1 hx
      rcases List.mem_append.1 he with he | he
      · exact honce e he
      · exact fun q => hout e (fun h9 => hHG e h9 he) (List.mem_of_mem_drop q)
  · refine List.nodup_append.2 ⟨h.rn, by simp, fun a ha b hb hab => ?_⟩
    obtain rfl := List.mem_singleton.1 hb
    subst hab
    exact hnr ha
  · rcases List.mem_append.1 hx with hx | hx
    · exact h.rl x hx
    · obtain rfl := List.mem_singleton.1 hx
      exact hnm
  · exact (h.sb e (hG e he).2).trans (List.sublist_append_left _ _)
  · rcases List.mem_append.1 he with he | he
    · show ((nmD D e).take (atd s e + 1)).Sublist (s.row ++ [n])
      rw [take_snoc (hst e he)]
      exact (h.sb e (hHG e he)).append_right [n]
    · exact (h.sb2 e he).trans (List.sublist_append_left _ _)
/-- One of them goes on. -/
theorem Iv.go {D : List (List (Nat × Int))} {m : Nat} {s : Gs} {Pd G : List Nat} {o : Nat} (h : Iv D m s Pd (o :: G)) : Iv D m { s with at' := s.at'.set o (atd s o + 1) } (o :: Pd) G := by
  have hp : (s.lt ++ Pd ++ (o :: G)).Perm (s.lt ++ (o :: Pd) ++ G) := by
    refine List.perm_middle.trans ?_
    rw [List.append_assoc s.lt (o :: Pd) G, List.append_assoc]
    exact List.perm_middle.symm
  have hnd := hp.nodup_iff.1 h.nd
  have hoG : o ∉ G := (List.nodup_cons.1 ((List.nodup_append.1 h.nd).2.1)).1
  have hoD : o < s.at'.length := by rw [h.la]; exact h.lt o (by simp)
  have hat : ∀ e, atd { s with at' := s.at'.set o (atd s o + 1) } e = if o = e then atd s o + 1 else atd s e := fun e => getD_set _ _ _ _ hoD
  obtain ⟨n, hnr, hst⟩ := h.gr o (by simp)
  have hlt := (List.getElem?_eq_some_iff.1 hst).1
  refine { h with la := by simp [h.la], nd := hnd, lt := fun e he => h.lt e (hp.mem_iff.2 he), le := fun e => ?_, cnt := fun k hk hr => ?_, ps := fun e x hx => ?_, gr := fun e he => ?_, nx := fun e x hx he => ?_, nx2 := fun e he x hx => ?_, sb := fun e he => ?_, sb2 := fun e he => ?_ }
  · rw [hat]
    split
    · rename_i q; subst q; omega
    · exact h.le e
  · rw [show ({ s with at' := s.at'.set o (atd s o + 1) } : Gs).cm.getD k 0 = s.cm.getD k 0 from rfl, h.cnt k hk hr]
    congr 1
    apply wt_congr
    intro e _
    rw [hat]
    by_cases hoe : o = e
    · subst hoe
      simp
    · rw [if_neg hoe]
      have := hp.mem_iff (a := e)
      show _ ↔ e ∉ s.lt ++ (o :: Pd) ++ G ∧ _
      rw [← this]
  · rw [hat] at hx
    split at hx
    · rename_i q
      subst q
      rw [take_snoc hst] at hx
      rcases List.mem_append.1 hx with hx | hx
      · exact h.ps o x hx
      · obtain rfl := List.mem_singleton.1 hx
        exact hnr
    · exact h.ps e x hx
  · rw [hat, if_neg (by rintro rfl; exact hoG he)]
    exact h.gr e (by simp [he])
  · rw [hat]
    split
    · rename_i q
      subst q
      exact h.nx2 o (by simp) x hx
    · rename_i q
      exact h.nx e x hx (by simp only [List.mem_cons]; rintro (r | r); exact q r.symm; exact he r)
  · rw [hat, if_neg (by rintro rfl; exact hoG he)]
    exact h.nx2 e (by simp [he]) x hx
  · rw [hat]
    split
    · rename_i q
      subst q
      exact h.sb2 o (by simp)
    · rename_i q
      exact h.sb e (by simp only [List.mem_cons]; rintro (r | r); exact q r.symm; exact he r)
  · rw [hat, if_neg (by rintro rfl; exact hoG he)]
    exact h.sb2 e (by simp [he])
end Go.Proofs.Ytjimolafoihnpaa.tc
