/-
  record: gone; Changes.
-/
import Derived.Test.YtdheddgdlindmaaReB
import Derived.Test.YtdheddgdlindmaaRcZ
namespace Go.Proofs.Ytdheddgdlindmaa
open Go.Maps Go.ChangeShapes Go.WideShapes Go.ChangeAt Go.RowKit Go.PlainAid

theorem Try.infoSR : (Try.prog.info? 9).map (fun i => (i.zero, i.size, i.bytes)) = some (some (.string ⟨#[]⟩), 1, 16) := by kernel_rfl
def svs (l : List ByteArray) : List Value := l.map Value.string
theorem one_str (s : ByteArray) : ∀ u ∈ [Value.string s], u.oneCell' = true := by
  intro u hu
  simp at hu
  subst hu
  rfl
set_option maxRecDepth 20000 in
set_option maxHeartbeats 3000000 in
theorem gone_any (va vb : Value) (A B : List PaD) (w : World) (hA : RdPa w va A) (hB : RdPa w vb B) (hn : (B.map PaD.k).Nodup) (hkA : ∀ x ∈ A, x.k.size ≤ maxLen) (hkB : ∀ x ∈ B, x.k.size ≤ maxLen) (hl : A.length ≤ 1000000) (hl2 : B.length ≤ 1000000) :
    Calls Try.prog 36 #[va, vb] w fun e w' => ∃ u, e = .returned u ∧ w'.ownsRow w.heap.size 9 1 u (gnD A B).length (svs (gnD A B)) ∧ Below w.heap.size w w' := by
  obtain ⟨i0, hin, hz0, hz1, hz2⟩ := info_parts Try.infoSR
  have cM := places_any vb B w hB hn hkB hl2
  obtain ⟨ao, ac, rfl, hac⟩ := hA
  obtain ⟨bo, bc, rfl, -⟩ := hB
  obtain ⟨R, HR⟩ : ∃ R, Hid (gnD A B = R) := ⟨_, rfl⟩
  rw [HR.out]
  go_enter Try.func36, Try.ntmps36
  go_wp2_with fail
  refine cM.mono ?_
  rintro e w1 ⟨b, rfl, hM, hb, hb1⟩
  clear cM
  go_wp2_with fail
  go_loopw [5, 15] (fun lv i wr => ∃ (k : Nat) (P : List ByteArray), k ≤ A.length ∧ i = .int .i64 (k : Int) ∧ Hid (P = ((A.take k).filter fun p => !hasK B p.k).map PaD.k) ∧ P.length ≤ k ∧ wr.ownsRow w1.heap.size 9 1 lv P.length (svs P) ∧ Below w1.heap.size w1 wr) (fun _ i _ => A.length - (Go.RowKit.intOf i).toNat)
  case atStart => exact ⟨0, [], by omega, rfl, by show _ = _; simp, by simp, World.ownsRow_nil _ _ _ _, Below.refl _ _⟩
  case round =>
    obtain ⟨k, P, hkl, rfl, HP, hPl, ho, hbl⟩ := hrel
    obtain ⟨al, kl, rfl⟩ := own_form ho
    have hbw := hb1.trans (hbl.mono hb1.size)
    by_cases hlt : k < A.length
    · have hlt' : (k : Int) < (A.length : Int) := by omega
      obtain ⟨g, off, rfl, hg, c0, c1⟩ := hac k A[k] (by simp [hlt])
      rw [← hbw.cell (p := ⟨g, _, none⟩) hg] at c0 c1
      have hks := hkA A[k] (List.getElem_mem hlt)
      have HF := congrArg (List.map PaD.k) (fil_take (fun p => !hasK B p.k) A k hlt)
      rw [List.map_append, ← HP.out] at HF
      generalize A[k] = x at *
      have hal := alloc_bR wr (.cells #[.string x.k, .string x.v] 44)
      have hnew := heap_alloc_new wr (.cells #[.string x.k, .string x.v] 44)
      obtain ⟨c, hrun, -⟩ := ((hM.below hbl).below hal).look hks
      have n0 : (wr.alloc (.cells #[.string x.k, .string x.v] 44)).cell? ⟨wr.heap.size, 0, none⟩ = some (.string x.k) := cell_of_row _ _ 0 _ _ (0, 0) hnew
      have hbl1 := hbl.trans (hal.mono hbl.size)
      have ho1 := own_belowG ho hal
      clear hac ho hnew
      cases hhk : hasK B x.k with
      | true =>
        rw [hhk] at hrun
        have HF2 : Hid (P = ((A.take (k + 1)).filter fun p => !hasK B p.k).map PaD.k) := by show _ = _; rw [HF]; simp [hhk]
        clear HF HP
        go_wp2_with fail
        exact ⟨⟨k + 1, P, by omega, by go_num, HF2, by omega, ho1, hbl1⟩, by simp [Go.RowKit.intOf]; omega⟩
      | false =>
        rw [hhk] at hrun
        have HF2 : Hid (P ++ [x.k] = ((A.take (k + 1)).filter fun p => !hasK B p.k).map PaD.k) := by show _ = _; rw [HF]; simp [hhk]
        have ha := alloc_bR (wr.alloc (.cells #[.string x.k, .string x.v] 44)) (.cells #[.string x.k] 9)
        have hoE := own_belowG ho1 ha
        have hbE := hbl1.trans (ha.mono hbl1.size)
        have hsE := hbE.size
        clear HF HP
        go_wp2_with (at_builtin; refine wpList_append_own _ rfl (.tmp 28) (.tmp 31) 39 rfl w1.heap.size 9 i0 (.string ⟨#[]⟩) 1 16 Try.underlying39 hin hz0 hz1 hz2 rfl (by decide) _ P.length _ rfl hoE ⟨_, 0, none⟩ 1 1 [.string x.k] rfl rfl (many_new2 _ _ _ _) (one_str _) (by unfold maxLen; omega) (by omega) hsE ?_; intro v6 w6 ho6 hg6 _)
        have ho7 : w6.ownsRow w1.heap.size 9 1 v6 (P ++ [x.k]).length (svs (P ++ [x.k])) := by
          unfold svs
          rw [List.length_append, List.map_append]
          exact ho6
        exact ⟨⟨k + 1, P ++ [x.k], by omega, by go_num, HF2, by simp; omega, ho7, ownB hoE hg6 hbE (Nat.le_refl _) hsE⟩, by simp [Go.RowKit.intOf]; omega⟩
    · have hlt' : ¬ (k : Int) < (A.length : Int) := by omega
      have e : P = R := by rw [HP.out, List.take_of_length_le (by omega), ← HR.out]; rfl
      subst e
      clear hac HP HR
      go_wp2_with fail
      go_ret
      exact ⟨_, rfl, own_lower ho hb1.size, hbw⟩
/-- What Changes gives. -/
def chE (F T : StD) : List PaD × List ByteArray × Int := if stF F = true ∧ stF T = true then (ptD (prD F) (prD T), gnD (prD F) (prD T), 0) else ([], [], 150)
theorem prD_len {S : StD} (h : stF S = true) : (prD S).length ≤ 1000 := by
  have hk := st_ok h
  have h1 := hk.cl
  have h2 := hk.bl
  have h3 := hk.ul
  simp only [prD, List.length_append, List.length_map, List.length_cons, List.length_nil]
  omega
theorem prD_key {S : StD} : ∀ x ∈ prD S, x.k.size ≤ maxLen := by
  intro x hx
  unfold prD at hx
  simp only [List.mem_append, List.mem_map, List.mem_singleton] at hx
  rcases hx with ((⟨y, hy, rfl⟩ | ⟨y, hy, rfl⟩) | rfl) | ⟨y, hy, rfl⟩
  · unfold brP; rw [mk_size]; unfold maxLen; simp
  · unfold coP; rw [mk_size]; unfold maxLen; simp
  · unfold nxP; rw [mk_size]; unfold maxLen; simp
  · unfold cuP; rw [mk_size]; unfold maxLen; simp
set_option maxRecDepth 20000 in
set_option maxHeartbeats 3000000 in
theorem changes_any (F T : StD) (f1 f2 f3 t1 t2 t3 : Value) (w : World) (hf : RdSt w f1 f2 f3 F) (ht : RdSt w t1 t2 t3 T) (hFf : F.Fit) (hFt : T.Fit) :
    Calls Try.prog 16 #[.agg (F.fs f1 f2 f3), .agg (T.fs t1 t2 t3)] w fun e w' => ∃ u v, e = .returned (.tuple #[u, v, .int .i64 (chE F T).2.2]) ∧ w'.ownsRow w.heap.size 44 2 u (chE F T).1.length (pcs (chE F T).1) ∧ w'.ownsRow w.heap.size 9 1 v (chE F T).2.1.length (svs (chE F T).2.1) ∧ Below w.heap.size w w' := by
  have b1 := alloc_bR w (.cells (F.fs f1 f2 f3) 26)
  have b2 := alloc_bR (w.alloc (.cells (F.fs f1 f2 f3) 26)) (.cells (T.fs t1 t2 t3) 26)
  have k1 := (sb_new w F f1 f2 f3).below b2
  have k2 := sb_new (w.alloc (.cells (F.fs f1 f2 f3) 26)) T t1 t2 t3
  rw [World.size_alloc] at k2
  have hB0 := b1.trans (b2.mono b1.size)
  have hf' := hf.below hB0
  have ht' := ht.below hB0
  obtain ⟨a1, c1, e1, -⟩ := hf.c
  subst e1
  obtain ⟨a2, c2, e2, -⟩ := hf.b
  subst e2
  obtain ⟨a3, c3, e3, -⟩ := hf.u
  subst e3
  obtain ⟨d1, g1, e1, -⟩ := ht.c
  subst e1
  obtain ⟨d2, g2, e2, -⟩ := ht.b
  subst e2
  obtain ⟨d3, g3, e3, -⟩ := ht.u
  subst e3
  generalize hw2 : (w.alloc (.cells (F.fs (.slice a1 F.cs.length c1) (.slice a2 F.bs.length c2) (.slice a3 F.us.length c3)) 26)).alloc (.cells (T.fs (.slice d1 T.cs.length g1) (.slice d2 T.bs.length g2) (.slice d3 T.us.length g3)) 26) = w2 at *
  have cP := pairs_any F _ _ _ w2 hf' hFf
  have cQ := fun W (h : Below w2.heap.size w2 W) => pairs_any T _ _ _ W (ht'.below h) hFt
  obtain ⟨R, HR⟩ : ∃ R, Hid (chE F T = R) := ⟨_, rfl⟩
  rw [HR.out]
  obtain ⟨x0, x1, x2, x3, x4⟩ := cellsSB k1
  clear b1 b2 hf ht hf' ht'
  simp only [StD.fs] at cP cQ hw2 ⊢
  cases hF : stF F with
  | false =>
    have e : R = ([], [], 150) := by rw [← HR.out, chE, if_neg (by rw [hF]; simp)]
    subst e
    rw [prE, if_neg (by rw [hF]; decide)] at cP
    clear HR cQ
    go_enter Try.func16, Try.ntmps16
    go_wp2_with fail
    refine cP.mono ?_
    rintro e w3 ⟨dv, rfl, ho, hb3⟩
    obtain ⟨a9, k9, rfl⟩ := own_form ho
    go_wp2_with fail
    go_ret3
    exact ⟨_, _, rfl, World.ownsRow_nil _ _ _ _, World.ownsRow_nil _ _ _ _, hB0.trans (hb3.mono hB0.size)⟩
  | true =>
    rw [prE, if_pos hF] at cP
    have hlF := prD_len hF
    have hnF := rise_keys (pr_rise hF)
    have hkF := prD_key (S := F)
    cases hT : stF T with
    | false =>
      have e : R = ([], [], 150) := by rw [← HR.out, chE, if_neg (by rw [hT]; simp)]
      subst e
      rw [prE, if_neg (by rw [hT]; decide)] at cQ
      clear HR hlF hnF hkF
      generalize prD F = A at *
      go_enter Try.func16, Try.ntmps16
      go_wp2_with fail
      refine cP.mono ?_
      rintro e w3 ⟨dv, rfl, ho, hb3⟩
      obtain ⟨a9, k9, rfl⟩ := own_form ho
      have cQ' := cQ w3 hb3
      clear x0 x1 x2 x3 x4 cP cQ
      obtain ⟨y0, y1, y2, y3, y4⟩ := cellsSB (k2.below hb3)
      go_wp2_with fail
      refine cQ'.mono ?_
      rintro e w4 ⟨dv4, rfl, ho4, hb4⟩
      obtain ⟨a8, k8, rfl⟩ := own_form ho4
      go_wp2_with fail
      go_ret3
      exact ⟨_, _, rfl, World.ownsRow_nil _ _ _ _, World.ownsRow_nil _ _ _ _, (hB0.trans (hb3.mono hB0.size)).trans (hb4.mono (Nat.le_trans hB0.size hb3.size))⟩
    | true =>
      have e : R = (ptD (prD F) (prD T), gnD (prD F) (prD T), 0) := by rw [← HR.out, chE, if_pos ⟨hF, hT⟩]
      subst e
      rw [prE, if_pos hT] at cQ
      have hlT := prD_len hT
      have hnT := rise_keys (pr_rise hT)
      have hkT := prD_key (S := T)
      clear HR
      generalize prD F = A at *
      generalize prD T = B at *
      go_enter Try.func16, Try.ntmps16
      go_wp2_with fail
      refine cP.mono ?_
      rintro e w3 ⟨dv, rfl, ho, hb3⟩
      obtain ⟨a9, k9, rfl⟩ := own_form ho
      have cQ' := cQ w3 hb3
      clear x0 x1 x2 x3 x4 cP cQ
      obtain ⟨y0, y1, y2, y3, y4⟩ := cellsSB (k2.below hb3)
      go_wp2_with fail
      refine cQ'.mono ?_
      rintro e w4 ⟨dv4, rfl, ho4, hb4⟩
      obtain ⟨a8, k8, rfl⟩ := own_form ho4
      have cU := put_any _ _ A B w4 ((rdpa_own ho).below hb4) (rdpa_own ho4) hnF hkF hkT (by omega) (by omega)
      clear y0 y1 y2 y3 y4 cQ'
      go_wp2_with fail
      refine cU.mono ?_
      rintro e w5 ⟨u5, rfl, ho5, hb5⟩
      obtain ⟨a5, k5, rfl⟩ := own_form ho5
      have hb45 := hb4.trans (hb5.mono hb4.size)
      have cV := gone_any _ _ A B w5 ((rdpa_own ho).below hb45) ((rdpa_own ho4).below hb5) hnT hkF hkT (by omega) (by omega)
      clear cU
      go_wp2_with fail
      refine cV.mono ?_
      rintro e w6 ⟨u6, rfl, ho6, hb6⟩
      obtain ⟨a6, k6, rfl⟩ := own_form ho6
      go_wp2_with fail
      have hB3 := hB0.trans (hb3.mono hB0.size)
      have hB4 := hB3.trans (hb4.mono hB3.size)
      have hB5 := hB4.trans (hb5.mono hB4.size)
      go_ret3
      exact ⟨_, _, rfl, own_lower (own_belowG ho5 hb6) hB4.size, own_lower ho6 hB5.size, hB5.trans (hb6.mono hB5.size)⟩
end Go.Proofs.Ytdheddgdlindmaa
