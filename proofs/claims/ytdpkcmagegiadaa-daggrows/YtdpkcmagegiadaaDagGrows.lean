/-
  Proved: one commit more, on any two, changes nothing of what is above those that were there (the law DagGrows), for every input.
-/
import Derived.Test.YtdpkcmagegiadaaDgN
import Derived.Test.YtdpkcmagegiadaaDgP
import Derived.ChangeOld
import Derived.ShutString
namespace Go.Proofs.Ytdpkcmagegiadaa.dagGrows
open Go.RowKit Go.ChangeShapes Go.WideShapes Go.ChangeAt Go.PlainAid

theorem below_of_grown {W W' : World} (h : W.grownBy W' none) : Below W.heap.size W W' := ⟨h.os, h.tape, h.output, h.size, fun k hk => h.block k hk (by simp)⟩
theorem two_new {W : World} {x y : Value} {t : TypeId} {g : Nat} (hg : W.heap.size = g) : ∀ j u, [x, y][j]? = some u → (W.alloc (.cells #[x, y] t)).cell? ((⟨g, 0, none⟩ : Addr).add j) = some u := by
  intro j u hj
  subst hg
  match j, hj with
  | 0, hj => simp at hj; subst hj; simp [Addr.add]
  | 1, hj => simp at hj; subst hj; simp [Addr.add]
theorem two_one (x : Int) (a : Option Addr) (n m : Nat) : ∀ u ∈ [Value.int .i64 x, .slice a n m], u.oneCell' = true := by
  intro u hu
  simp at hu
  rcases hu with rfl | rfl <;> rfl

set_option maxRecDepth 20000 in
set_option maxHeartbeats 1000000 in
theorem walk (v : Value) (L : List Lk) (a b : Int) (w : World) (hv : RdL w v L) (hl : L.length ≤ maxLen) (hok : ∀ k ∈ L, k.Ok) (a0 : -9223372036854775808 ≤ a) (a1 : a ≤ 9223372036854775807) (b0 : -9223372036854775808 ≤ b) (b1 : b ≤ 9223372036854775807) :
    Calls Try.prog 6 #[v, .int .i64 a, .int .i64 b] w fun e w' => e = .returned (.bool true) ∧ Below w.heap.size w w' := by
  have cK := check_any hv hl hok
  by_cases hg : Good L
  · have hck : chkR L = 0 := by unfold chkR; rw [goodB_true hg]; rfl
    rw [hck] at cK
    clear hck
    obtain ⟨ao, cp, rfl, -⟩ := id hv
    by_cases h0 : L.length = 0
    · have hL : L = [] := List.eq_nil_of_length_eq_zero h0
      subst hL
      clear hv hok hg h0
      simp only [List.length_nil] at *
      go_enter Try.func6, Try.ntmps6
      go_wp2_with fail
      refine cK.mono ?_
      rintro e w1 ⟨rfl, hb1⟩
      clear cK
      go_wp2_with (go_at_call 16; refine (live_any _).mono ?_; rintro e w6 ⟨rfl, hb6⟩)
      go_ret
      exact ⟨rfl, chain hb1 hb6⟩
    · have hpos : 0 < L.length := by omega
      have h300 := good_300 hg
      have hN1 : (1 : Int) ≤ (L.length : Int) := by omega
      have hN2 : (L.length : Int) ≤ 300 := by omega
      have hN0 : ((L.length : Int) == 0) = false := by rw [beq_eq_false_iff_ne]; omega
      have hlb : 1 ≤ lastN L ∧ lastN L ≤ 300 := by
        have h1 := good_len hg
        have h2 := (good_bd hg).2.2.2
        omega
      obtain ⟨_, _, e1, -, hcs⟩ := id hv
      obtain ⟨gb, off, pv, e2, hgb, cN, -, -⟩ := hcs (L.length - 1) (L[L.length - 1]'(by omega)) (by rw [List.getElem?_eq_getElem (by omega)])
      simp at e1
      obtain ⟨rfl, rfl⟩ := e1
      subst e2
      rw [← last_at hpos] at cN
      have hcN : ∀ W, Below w.heap.size w W → W.cell? ⟨gb, off + (L.length - 1) * 2, none⟩ = some (.int .i64 (lastN L)) := fun W hb => (hb.cell (p := ⟨gb, off + (L.length - 1) * 2, none⟩) hgb).trans cN
      clear hcs cN
      by_cases h3 : 300 ≤ lastN L
      · clear hok hv
        go_enter Try.func6, Try.ntmps6
        go_wp2_with fail
        refine cK.mono ?_
        rintro e w1 ⟨rfl, hb1⟩
        have cN := hcN w1 hb1
        clear cK hcN hg
        generalize lastN L = n at *
        go_wp2_with (go_at_call 16; refine (live_any _).mono ?_; rintro e w6 ⟨rfl, hb6⟩)
        go_ret
        exact ⟨rfl, chain hb1 hb6⟩
      · have cA := fun W (hb : Below w.heap.size w W) => Above_any a a0 a1 (hv.below hb) hl hok
        have cB := fun W (hb : Below w.heap.size w W) => Above_any b b0 b1 (hv.below hb) hl hok
        by_cases hA : a ∈ nums L
        · by_cases hB : b ∈ nums L
          · by_cases hab : a = b
            · have z1 : (upR L a).2 = 0 := by rw [up_ok hg hA]
              have z2 : (upR L b).2 = 0 := by rw [up_ok hg hB]
              simp only [z1] at cA
              simp only [z2] at cB
              subst hab
              clear z1 z2 hA hB hg hok hv
              go_enter Try.func6, Try.ntmps6
              go_wp2_with fail
              refine cK.mono ?_
              rintro e w1 ⟨rfl, hb1⟩
              have cN := hcN w1 hb1
              have cA' := cA w1 hb1
              clear cK cA
              generalize lastN L = n at *
              go_wp2_with fail
              refine cA'.mono ?_
              rintro e w2 ⟨u2, rfl, ho2, hb2⟩
              have hb12 := chain hb1 hb2
              have cB' := cB w2 hb12
              clear cA' cB cN
              go_wp2_with fail
              refine cB'.mono ?_
              rintro e w3 ⟨u3, rfl, ho3, hb3⟩
              have hb13 := chain hb12 hb3
              clear cB'
              clear ho2 ho3 hcN hb12 hb3 hb1 hb2
              go_wp2_with (go_at_call 16; refine (live_any _).mono ?_; rintro e w6 ⟨rfl, hb6⟩)
              go_ret
              exact ⟨rfl, chain hb13 hb6⟩
            · have hm := more_good hg hA hB hab (by omega)
              have z1 : (upR L a).2 = 0 := by rw [up_ok hg hA]
              have z2 : (upR L b).2 = 0 := by rw [up_ok hg hB]
              have FU := more_up hg hm hA
              have FA := more_all hg hm hA hB
              have FT1 := more_tip hm (p := a) (.inl rfl)
              have FT2 := more_tip hm (p := b) (.inr rfl)
              have lx := up_len L a
              have ly := up_len L b
              have lt := tip_len (more L a b)
              have HC : Hid (∀ k (hk : k < L.length), ((upR L a).1.contains L[k].num || (upR L b).1.contains L[k].num) = true → ((nums L).filter (fun x => (upR L a).1.contains x || (upR L b).1.contains x) ++ [lastN L + 1]).contains L[k].num = true) := fun k hk h => by
                rw [List.contains_eq_mem, decide_eq_true_eq]
                refine List.mem_append_left _ (List.mem_filter.2 ⟨List.mem_map.2 ⟨L[k], by simp, rfl⟩, h⟩)
              have HF : Hid (((nums L).filter (fun x => (upR L a).1.contains x || (upR L b).1.contains x) ++ [lastN L + 1]).length = cntU L (upR L a).1 (upR L b).1 L.length + 1) := by
                show _ = _
                unfold cntU
                rw [List.length_append, List.take_length]
                rfl
              have lA : ((nums L).filter (fun x => (upR L a).1.contains x || (upR L b).1.contains x) ++ [lastN L + 1]).length ≤ 301 := by
                rw [HF.out]
                have := cntU_le (L := L) (upR L a).1 (upR L b).1 L.length
                omega
              have hokm : ∀ k ∈ more L a b, k.Ok := by
                intro k hk
                unfold more at hk
                rcases List.mem_append.1 hk with hk | hk
                · exact hok k hk
                · simp at hk
                  subst hk
                  refine ⟨by show _ ≤ lastN L + 1; omega, by show lastN L + 1 ≤ _; omega, by unfold maxLen; simp, fun p hp => ?_⟩
                  simp at hp
                  rcases hp with rfl | rfl
                  · exact ⟨a0, a1⟩
                  · exact ⟨b0, b1⟩
              have hlm : (more L a b).length ≤ maxLen := by unfold more maxLen; rw [List.length_append, List.length_singleton]; omega
              have cU := fun W v2 (h : RdL W v2 (more L a b)) => Above_any a a0 a1 h hlm hokm
              have cL := fun W v2 (h : RdL W v2 (more L a b)) => Above_any (lastN L + 1) (by omega) (by omega) h hlm hokm
              have cT := fun W v2 (h : RdL W v2 (more L a b)) => Tips_any h hlm hokm
              simp only [FU, z1] at cU
              simp only [FA] at cL
              simp only [z1] at cA
              simp only [z2] at cB
              have HLV : Hid (∀ W, Below w.heap.size w W → ∃ l : List (Int × Value), l.length = L.length ∧ (∀ i (hi : i < L.length), ∃ pv, l[i]? = some (L[i].num, pv) ∧ RdI W pv L[i].ps) ∧ (∀ u ∈ lcells l, u.oneCell' = true) ∧ ∀ j u, (lcells l)[j]? = some u → W.cell? ((⟨gb, off, none⟩ : Addr).add j) = some u) := fun W hb => by
                obtain ⟨l, h1, h2, h3, h4⟩ := src_of (hv.below hb)
                exact ⟨l, h1, h2, h3, h4 gb off rfl⟩
              have HCL : Hid (∀ W, Below w.heap.size w W → ∀ k (hk : k < L.length), W.cell? ⟨gb, off + k * 2, none⟩ = some (.int .i64 L[k].num)) := fun W hb k hk => by
                obtain ⟨_, _, e1, _, hcs⟩ := hv.below hb
                obtain ⟨gb', off', pv', e2, _, c0, _⟩ := hcs k L[k] (by simp [hk])
                cases e1
                cases e2
                exact c0
              have hM : Hid (∀ (W : World) (v2 : Value) (l : List (Int × Value)) (B g : Nat), l.length = L.length → (∀ i (hi : i < L.length), ∃ pv, l[i]? = some (L[i].num, pv) ∧ RdI W pv L[i].ps) → RdI W (.slice (some ⟨g, 0, none⟩) 2 2) [a, b] → W.ownsRow B 36 2 v2 (l ++ [(lastN L + 1, Value.slice (some ⟨g, 0, none⟩) 2 2)]).length (lcells (l ++ [(lastN L + 1, Value.slice (some ⟨g, 0, none⟩) 2 2)])) → RdL W v2 (more L a b)) := fun W v2 l B g hll hs hr ho => by
                refine rdl_own ho (by simp [more, hll]) (fun i hi => ?_)
                unfold more at hi ⊢
                rw [List.length_append, List.length_singleton] at hi
                by_cases h : i < L.length
                · obtain ⟨pv, h1, h2⟩ := hs i h
                  exact ⟨pv, by rw [List.getElem?_append_left (by omega), h1, List.getElem_append_left h], by rw [List.getElem_append_left h]; exact h2⟩
                · obtain rfl : i = L.length := by omega
                  refine ⟨_, by rw [List.getElem?_append_right (by omega), hll, Nat.sub_self, List.getElem_append_right (Nat.le_refl _)]; simp only [Nat.sub_self, List.getElem_cons_zero]; rfl, ?_⟩
                  rw [List.getElem_append_right (Nat.le_refl _)]
                  simp only [Nat.sub_self, List.getElem_cons_zero]
                  exact hr
              clear z1 z2 FU FA hg hm hA hB hok hokm hlm hv hl h300 h0
              obtain ⟨i0, hin, hz0, hz1, hz2⟩ := info_parts Try.infoLk
              generalize (upR L a).1 = X at *
              generalize (upR L b).1 = Y at *
              generalize (nums L).filter (fun x => X.contains x || Y.contains x) ++ [lastN L + 1] = A at *
              generalize tipR (more L a b) = T at *
              have h3' : lastN L < 300 := by omega
              go_enter Try.func6, Try.ntmps6
              go_wp2_with fail
              refine cK.mono ?_
              rintro e w1 ⟨rfl, hb1⟩
              have cN := hcN w1 hb1
              have cA' := cA w1 hb1
              clear cK cA
              generalize lastN L = n at *
              go_wp2_with fail
              refine cA'.mono ?_
              rintro e w2 ⟨u2, rfl, ho2, hb2⟩
              have hb12 := chain hb1 hb2
              have cB' := cB w2 hb12
              clear cA' cB cN
              go_wp2_with fail
              refine cB'.mono ?_
              rintro e w3 ⟨u3, rfl, ho3, hb3⟩
              have hb13 := chain hb12 hb3
              clear cB'
              have r2 := (rdi_own ho2).below hb3
              have r3 := rdi_own ho3
              clear ho2 ho3 hb12 hb3 hb1 hb2
              obtain ⟨lv, hlv, hlvs, hone, hsrc⟩ := HLV.out w3 hb13
              have cN := hcN w3 hb13
              have hlc : (lcells lv).length = L.length * 2 := by rw [lcells_length, hlv]
              clear HLV
              go_wp2_with (first
                | (at_builtin; refine wpList_append_own _ rfl (.tmp 61) (.tmp 62) 22 rfl w3.heap.size 36 i0 (.agg #[.int .i64 0, .slice none 0 0]) 2 32 Try.underlying22 hin hz0 hz1 hz2 rfl (by decide) _ _ _ rfl (World.ownsRow_nil _ _ _ _) ⟨gb, off, none⟩ L.length cp (lcells lv) rfl hlc hsrc hone (by unfold maxLen; omega) (by omega) (Nat.le_refl _) ?_; intro v4 w4 ho4 hg4 _; have hb4 := below_of_grown hg4; have cN4 := hcN w4 (chain hb13 hb4))
                | (at_builtin; refine wpList_append_own _ rfl (.tmp 64) (.tmp 77) 22 rfl w3.heap.size 36 i0 (.agg #[.int .i64 0, .slice none 0 0]) 2 32 Try.underlying22 hin hz0 hz1 hz2 rfl (by decide) _ _ _ rfl ((ho4.alloc _).alloc _) ⟨_, 0, none⟩ 1 1 [.int .i64 (n + 1), .slice (some ⟨w4.heap.size, 0, none⟩) 2 2] rfl rfl (two_new (by simp)) (two_one _ _ _ _) (by unfold maxLen; omega) (by omega) (by have := hb4.size; simp; omega) ?_; intro v5 w5 ho5 hg5 _; clear cN4))
              have hb5 : Below w3.heap.size w3 w5 := by
                have h1 := (hb4.alloc hb4.size (.cells #[.int .i64 a, .int .i64 b] 3)).alloc (by have := hb4.size; simp; omega) (.cells #[.int .i64 (n + 1), .slice (some ⟨w4.heap.size, 0, none⟩) 2 2] 36)
                exact h1.grown hg5 h1.size (fun j hj => (ho4.lt j hj).1)
              have rAB : RdI w5 (.slice (some ⟨w4.heap.size, 0, none⟩) 2 2) [a, b] := by
                refine rdi_row (l := [a, b]) (t := 3) (fr := (0, 0)) 2 ?_
                rw [hg5.block w4.heap.size (by simp; omega) (fun e => by have := (ho4.lt _ e.symm).2; omega), Below.heap_alloc _ _ _ (by simp)]
                exact heap_alloc_new w4 _
              have hRM : RdL w5 v5 (more L a b) := hM.out w5 v5 lv w3.heap.size w4.heap.size hlv (fun i hi => by
                obtain ⟨pv, h1, h2⟩ := hlvs i hi
                exact ⟨pv, h1, h2.below hb5⟩) rAB (by
                  have e1 : (lv ++ [(n + 1, Value.slice (some ⟨w4.heap.size, 0, none⟩) 2 2)]).length = 0 + L.length + 1 := by rw [List.length_append, hlv, List.length_singleton]; omega
                  rw [e1, lcells_append, lcells_one]
                  exact ho5)
              have hb15 := chain hb13 hb5
              have r2 := r2.below hb5
              have r3 := r3.below hb5
              obtain ⟨mo, mp, rfl, -⟩ := id hRM
              have cU' := cU w5 _ hRM
              clear hM rAB hlvs hsrc hone ho4 hg4 ho5 hg5 hb4 hb5 hb13 cU hlc cN hlv
              go_wp2_with fail
              refine cU'.mono ?_
              rintro e w6 ⟨u6, rfl, ho6, hb6⟩
              have hb16 := chain hb15 hb6
              have cN6 := hcN w6 hb16
              have hRM := hRM.below hb6
              have cL' := cL w6 _ hRM
              have r2 := r2.below hb6
              have r3 := r3.below hb6
              clear cU' cL hb15 hb6
              go_wp2_with fail
              refine cL'.mono ?_
              rintro e w7 ⟨u7, rfl, ho7, hb7⟩
              have hb17 := chain hb16 hb7
              have r6 := (rdi_own ho6).below hb7
              have r2 := r2.below hb7
              have r3 := r3.below hb7
              have r7 := rdi_own ho7
              have hRM := hRM.below hb7
              have cS := same_eq r6 r2 (by omega)
              clear cL' hb16 hb7 ho6 ho7 cN6
              go_wp2_with fail
              refine cS.mono ?_
              rintro e w8 ⟨rfl, hb8⟩
              have hb18 := chain hb17 hb8
              have r2 := r2.below hb8
              have r3 := r3.below hb8
              have r7 := r7.below hb8
              have hRM := hRM.below hb8
              have cT' := cT w8 _ hRM
              clear cS hb17 hb8 r6
              go_wp2_with fail
              refine cT'.mono ?_
              rintro e w9 ⟨u9, rfl, ho9, hb9⟩
              have hb19 := chain hb18 hb9
              have cH := lhas_any a (rdi_own ho9) (by omega)
              rw [FT1] at cH
              have r2 := r2.below hb9
              have r3 := r3.below hb9
              have r7 := r7.below hb9
              have hRM := hRM.below hb9
              clear cT' hb18 hb9
              go_wp2_with fail
              refine cH.mono ?_
              rintro e w' ⟨rfl, hw⟩
              rw [hw]
              clear hw w' cH ho9
              have cT' := cT w9 _ hRM
              go_wp2_with fail
              refine cT'.mono ?_
              rintro e w10 ⟨u10, rfl, ho10, hb10⟩
              have hb20 := chain hb19 hb10
              have cH := lhas_any b (rdi_own ho10) (by omega)
              rw [FT2] at cH
              have r2 := r2.below hb10
              have r3 := r3.below hb10
              have r7 := r7.below hb10
              clear cT cT' hb19 hb10 hRM FT1 FT2
              go_wp2_with fail
              refine cH.mono ?_
              rintro e w' ⟨rfl, hw⟩
              rw [hw]
              clear hw w' cH ho10
              have hcl := HCL.out w10 hb20
              obtain ⟨xo, xp, rfl, -⟩ := id r2
              obtain ⟨yo, yp, rfl, -⟩ := id r3
              obtain ⟨zo, zp, rfl, -⟩ := id r7
              clear HCL hcN
              go_wp2_with fail
              go_loopw [16, 17] (fun ct i wr => ∃ k : Nat, k ≤ L.length ∧ ct = .int .i64 ((cntU L X Y k + 1 : Nat) : Int) ∧ i = .int .i64 (k : Int) ∧ wr = w10) (fun _ i _ => L.length - (Go.RowKit.intOf i).toNat)
              case atStart => exact ⟨0, Nat.zero_le _, rfl, rfl, rfl⟩
              case round =>
                obtain ⟨k, hk, rfl, rfl, rfl⟩ := hrel
                have hcn := cntU_le (L := L) X Y k
                by_cases ck : k < L.length
                · have ck' : (k : Int) < (L.length : Int) := by omega
                  have cK1 := hcl k ck
                  have cHx := lhas_any L[k].num r2 (by omega)
                  have cHy := lhas_any L[k].num r3 (by omega)
                  have cHz := lhas_any L[k].num r7 (by omega)
                  have HS : Hid (cntU L X Y (k + 1) = cntU L X Y k + (if X.contains L[k].num || Y.contains L[k].num then 1 else 0)) := cntU_succ ck
                  have HC' : Hid ((X.contains L[k].num || Y.contains L[k].num) = true → A.contains L[k].num = true) := HC.out k ck
                  clear hcl
                  generalize L[k].num = x at *
                  generalize cntU L X Y k = q at *
                  cases hx : X.contains x with
                  | true =>
                    have hz := HC'.out (by rw [hx]; rfl)
                    have HS' : Hid (cntU L X Y (k + 1) = q + 1) := by show _ = _; rw [HS.out, hx]; simp
                    rw [hx] at cHx
                    rw [hz] at cHz
                    clear hx hz HS HC' cHy
                    go_wp2_with fail
                    refine cHx.mono ?_
                    rintro e w' ⟨rfl, hw⟩
                    rw [hw]
                    clear hw w' cHx
                    go_wp2_with fail
                    refine cHz.mono ?_
                    rintro e w' ⟨rfl, hw⟩
                    rw [hw]
                    clear hw w' cHz
                    go_wp2_with fail
                    exact ⟨⟨k + 1, by omega, by rw [HS'.out]; go_num, by go_num, by first | rfl | trivial⟩, by simp only [Go.RowKit.intOf]; omega⟩
                  | false =>
                    rw [hx] at cHx
                    cases hy : Y.contains x with
                    | true =>
                      have hz := HC'.out (by rw [hy]; simp)
                      have HS' : Hid (cntU L X Y (k + 1) = q + 1) := by show _ = _; rw [HS.out, hy]; simp
                      rw [hy] at cHy
                      rw [hz] at cHz
                      clear hx hy hz HS HC'
                      go_wp2_with fail
                      refine cHx.mono ?_
                      rintro e w' ⟨rfl, hw⟩
                      rw [hw]
                      clear hw w' cHx
                      go_wp2_with fail
                      refine cHy.mono ?_
                      rintro e w' ⟨rfl, hw⟩
                      rw [hw]
                      clear hw w' cHy
                      go_wp2_with fail
                      refine cHz.mono ?_
                      rintro e w' ⟨rfl, hw⟩
                      rw [hw]
                      clear hw w' cHz
                      go_wp2_with fail
                      exact ⟨⟨k + 1, by omega, by rw [HS'.out]; go_num, by go_num, by first | rfl | trivial⟩, by simp only [Go.RowKit.intOf]; omega⟩
                    | false =>
                      have HS' : Hid (cntU L X Y (k + 1) = q) := by show _ = _; rw [HS.out, hx, hy]; simp
                      rw [hy] at cHy
                      clear hx hy HS HC' cHz
                      go_wp2_with fail
                      refine cHx.mono ?_
                      rintro e w' ⟨rfl, hw⟩
                      rw [hw]
                      clear hw w' cHx
                      go_wp2_with fail
                      refine cHy.mono ?_
                      rintro e w' ⟨rfl, hw⟩
                      rw [hw]
                      clear hw w' cHy
                      go_wp2_with fail
                      exact ⟨⟨k + 1, by omega, by rw [HS'.out]; go_num, by go_num, by first | rfl | trivial⟩, by simp only [Go.RowKit.intOf]; omega⟩
                · obtain rfl : k = L.length := by omega
                  have hA' : (A.length : Int) = ((cntU L X Y L.length + 1 : Nat) : Int) := by rw [HF.out]
                  generalize cntU L X Y L.length + 1 = q at *
                  clear HC hcl HF hcn
                  go_wp2_with (go_at_call 16; refine (live_any _).mono ?_; rintro e w6 ⟨rfl, hb6⟩)
                  go_ret
                  exact ⟨rfl, chain hb20 hb6⟩
          · have z1 : (upR L a).2 = 0 := by rw [up_ok hg hA]
            have z2 : (upR L b).2 = 131 := by unfold upR; rw [goodB_true hg, if_pos rfl, if_neg (by simpa [List.contains_eq_mem] using hB)]
            simp only [z1] at cA
            simp only [z2] at cB
            clear z1 z2 hA hB hg hok hv
            go_enter Try.func6, Try.ntmps6
            go_wp2_with fail
            refine cK.mono ?_
            rintro e w1 ⟨rfl, hb1⟩
            have cN := hcN w1 hb1
            have cA' := cA w1 hb1
            clear cK cA
            generalize lastN L = n at *
            go_wp2_with fail
            refine cA'.mono ?_
            rintro e w2 ⟨u2, rfl, ho2, hb2⟩
            have hb12 := chain hb1 hb2
            have cB' := cB w2 hb12
            clear cA' cB cN
            go_wp2_with fail
            refine cB'.mono ?_
            rintro e w3 ⟨u3, rfl, ho3, hb3⟩
            have hb13 := chain hb12 hb3
            clear cB'
            clear ho2 ho3 hcN hb12 hb3 hb1 hb2
            go_wp2_with (go_at_call 16; refine (live_any _).mono ?_; rintro e w6 ⟨rfl, hb6⟩)
            go_ret
            exact ⟨rfl, chain hb13 hb6⟩
        · have z1 : (upR L a).2 = 131 := by unfold upR; rw [goodB_true hg, if_pos rfl, if_neg (by simpa [List.contains_eq_mem] using hA)]
          simp only [z1] at cA
          clear z1 hA hg hok hv
          generalize (upR L b).2 = z2 at *
          go_enter Try.func6, Try.ntmps6
          go_wp2_with fail
          refine cK.mono ?_
          rintro e w1 ⟨rfl, hb1⟩
          have cN := hcN w1 hb1
          have cA' := cA w1 hb1
          clear cK cA
          generalize lastN L = n at *
          go_wp2_with fail
          refine cA'.mono ?_
          rintro e w2 ⟨u2, rfl, ho2, hb2⟩
          have hb12 := chain hb1 hb2
          have cB' := cB w2 hb12
          clear cA' cB cN
          go_wp2_with fail
          refine cB'.mono ?_
          rintro e w3 ⟨u3, rfl, ho3, hb3⟩
          have hb13 := chain hb12 hb3
          clear cB'
          clear ho2 ho3 hcN hb12 hb3 hb1 hb2
          go_wp2_with (go_at_call 16; refine (live_any _).mono ?_; rintro e w6 ⟨rfl, hb6⟩)
          go_ret
          exact ⟨rfl, chain hb13 hb6⟩
  · have hck : chkR L = 130 := by unfold chkR; rw [goodB_false hg]; rfl
    rw [hck] at cK
    obtain ⟨ao, cp, rfl, -⟩ := hv
    clear hck hg hok
    go_enter Try.func6, Try.ntmps6
    go_wp2_with fail
    refine cK.mono ?_
    rintro e w1 ⟨rfl, hb1⟩
    clear cK
    go_wp2_with (go_at_call 16; refine (live_any _).mono ?_; rintro e w6 ⟨rfl, hb6⟩)
    go_ret
    exact ⟨rfl, chain hb1 hb6⟩

theorem own : ownKnob Try.prog.godebug = none := by kernel_rfl
theorem laidOut : laidOutB Try.prog = true := by kernel_rfl

set_option maxRecDepth 20000 in
theorem contract (H : Type) (enc : TypeId × Value → H) (W : World) (base : Nat) (args : Array Value) (ds gs : List (DataW H)) (before : List MemPlace)
    (hval : ∀ (j : Nat) t v, Try.f6.params[j]? = some t → args[j]? = some v → Value.okWide Try.prog W .any base t v)
    (hW : DataW.Whole enc Try.prog Try.f6.params.toList Rows.dagGrowsSpec.vars false W args.toList ds gs before) :
    Calls Try.prog 6 args W fun e W' => ∃ v, e = .returned v ∧ Rows.dagGrowsSpec.post enc Try.prog Try.f6 false true false false W args v W' := by
  have hW' := hW
  obtain ⟨p, q, hA0, hV, rfl, hfz, hnd⟩ := hW
  have hA : DataW.TrodAll enc Try.prog W 0 (fun _ => true) true Try.f6.params.toList args.toList ds p := hA0
  rw [Try.params6] at hA hval
  obtain ⟨v0, vs0, d0, ds0, p0, q0, hargs, rfl, rfl, h0, r0⟩ := trodAll_cons hA
  obtain ⟨v1, vs1, d1, ds1, p1, q1, rfl, rfl, rfl, h1, r1⟩ := trodAll_cons r0
  obtain ⟨v2, vs2, d2, ds2, p2, q2, rfl, rfl, rfl, h2, r2⟩ := trodAll_cons r1
  obtain ⟨rfl, rfl, rfl⟩ := trodAll_nil r2
  obtain rfl : args = #[v0, v1, v2] := by cases args; simp_all
  obtain ⟨rfl, rfl⟩ := trodVars_none hV
  have k0 := h0
  have lt0 : ∀ x ∈ p0, x.block < W.heap.size := by obtain ⟨m, hm⟩ := k0; exact DataW.trod_lt m _ _ _ hm
  have k1 := h1
  have lt1 : ∀ x ∈ p1, x.block < W.heap.size := by obtain ⟨m, hm⟩ := k1; exact DataW.trod_lt m _ _ _ hm
  have k2 := h2
  have lt2 : ∀ x ∈ p2, x.block < W.heap.size := by obtain ⟨m, hm⟩ := k2; exact DataW.trod_lt m _ _ _ hm
  obtain ⟨a0, len0, cap0, rfl⟩ := okWide_slice Try.underlying22 (hval 0 22 v0 rfl rfl)
  obtain ⟨fuel0, hf0⟩ := h0
  obtain ⟨l0, rd0, ln0, ok0⟩ := open_ops hf0
  obtain ⟨a1, rfl, rfl, rfl, w1⟩ := open_int Try.underlying3 (hval 1 3 v1 rfl rfl) h1
  obtain ⟨a2, rfl, rfl, rfl, w2⟩ := open_int Try.underlying3 (hval 2 3 v2 rfl rfl) h2
  clear hA0
  simp only [List.append_nil] at hW'
  refine (walk (.slice a0 len0 cap0) l0 a1 a2 W rd0 ln0 ok0 (wf_bd w1).1 (wf_bd w1).2 (wf_bd w2).1 (wf_bd w2).2).mono fun e W' ⟨he, bel⟩ => ?_
  subst he
  exact ⟨_, rfl, _, _, _, [], _, [], hW', trodAll_mk1 (shut_bool Try.underlying4 _), (trodAll_cons_mk (Below.trod laidOut (by kernel_rfl) (of_decide_eq_true (by kernel_rfl)) k0 bel lt0) (trodAll_cons_mk (Below.trod laidOut (by kernel_rfl) (of_decide_eq_true (by kernel_rfl)) k1 bel lt1) (trodAll_cons_mk (Below.trod laidOut (by kernel_rfl) (of_decide_eq_true (by kernel_rfl)) k2 bel lt2) trodAll_mk0))), rfl, bel.frame _, fun h => by cases h⟩

set_option maxRecDepth 100000 in
theorem lifted (os : Os) (started : os.Started) (H : Type) (enc : TypeId × Value → H) :
    ReturnsInHanded {} Try.checked os 6 .any (Rows.dagGrowsSpec.pre6 enc Try.prog Try.f6 Rows.dagGrowsRow.domain false) (Rows.dagGrowsSpec.post enc Try.prog Try.f6 false true false false) := by
  refine returnsInHanded_of_change (C := Try.checked) own started (by kernel_rfl) Try.func6
    (ChangeSpec.witness6 (enc := enc) (C := Try.checked) false ⟨#[], #[.slice none 0 0, .int .i64 0, .int .i64 0], []⟩ 8 (by kernel_rfl) (by kernel_rfl) (by kernel_rfl) (by kernel_rfl)) ?_
  intro W base args ds gs before hval hW _ _
  exact contract H enc W base args ds gs before hval hW

theorem holds : Rows.DagGrowsSaid :=
  OpenClaim.holds_of_wide 6 Try.f6 rfl rfl rfl rfl rfl rfl rfl ⟨rfl, rfl, rfl, rfl, rfl⟩ rfl rfl rfl rfl rfl (by kernel_rfl) Try.func6 (by kernel_rfl)
    (of_decide_eq_true (by kernel_rfl)) (by unfold Func.isWrapper; first | (rw [if_pos (by decide +kernel)]; kernel_rfl) | (rw [if_neg (by decide +kernel)]; exact ⟨rfl, rfl⟩))
    (fun os started H enc _ => lifted os started H enc)
end Go.Proofs.Ytdpkcmagegiadaa.dagGrows
namespace Go.Proofs.Ytdpkcmagegiadaa
theorem dagGrows_holds : Rows.DagGrowsSaid := dagGrows.holds
#print axioms dagGrows_holds
end Go.Proofs.Ytdpkcmagegiadaa
