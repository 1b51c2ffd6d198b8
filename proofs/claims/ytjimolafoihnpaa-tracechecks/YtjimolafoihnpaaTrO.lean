/-
  The reference's Check (layer 24).
-/
import Derived.Test.YtjimolafoihnpaaTrK
import Derived.Test.YtjimolafoihnpaaTrN
namespace Go.Proofs.Ytjimolafoihnpaa.tc
open Go.Maps Go.ChangeShapes Go.WideShapes Go.ChangeAt Go.RowKit Go.PlainAid

theorem infoRA : (Try.prog.info? 52).map (fun i => (i.zero, i.size, i.bytes)) = some (some (.slice none 0 0), 1, 24) := by kernel_rfl
theorem key_in {L : List (List RunD)} {l : List RunD} (hl : l ∈ L) : ∀ x ∈ aT l, x.key ∈ nmA (aTs L) := fun x hx => nmA_mem.2 ⟨x, List.mem_flatten.2 ⟨aT l, List.mem_map.2 ⟨l, hl, rfl⟩, hx⟩, rfl⟩
theorem rda_form {W : World} {v : Value} {l : List Atm} (h : RdA W v l) : ∃ ao cp, v = .slice ao l.length cp := by
  obtain ⟨ao, cp, e, -⟩ := h
  exact ⟨ao, cp, e⟩
set_option maxRecDepth 20000 in
set_option maxHeartbeats 4000000 in
theorem rcheck24_any (v : Value) (L : List (List RunD)) (w : World) (hr : RdL w v L) (hL : L.length ≤ 1048576) (hl : ∀ l ∈ L, l.length ≤ 1048576 ∧ ∀ r ∈ l, r.t.size ≤ 1048576) (hn : (aTs L).length ≤ 1048576) :
    Calls Try.prog 8 #[v] w fun e w' => ∃ (a b : Nat) (ok : Bool), e = .returned (.tuple #[.int .i64 (a : Int), .int .i64 (b : Int), .bool ok]) ∧ ChkIs (dcs L) a b ok ∧ Below w.heap.size w w' := by
  obtain ⟨i0, hi, hz0, hz1, hz2⟩ := info_parts infoRA
  obtain ⟨ao, cp, rfl, _, hcs⟩ := hr
  have hD : ∀ k l, L[k]? = some l → (dcs L)[k]? = some (dA (nmA (aTs L)) (aT l)) := fun k l h => by rw [dcs, List.getElem?_map, h]; rfl
  have hDl : (dcs L).length = L.length := by simp [dcs]
  have hal : ∀ l ∈ L, (aT l).length ≤ 1048576 := fun l h => Nat.le_trans (aT_mem_le h) hn
  have hK : ∀ l ∈ L, ∀ x ∈ aT l, x.key ∈ nmA (aTs L) := fun l h => key_in h
  generalize nmA (aTs L) = N at *
  generalize dcs L = D at *
  clear hn
  go_enter Try.func8, Try.ntmps8
  go_wp2_with fail
  go_loopw [5, 6] (fun u iv wr => ∃ (k : Nat) (R : List Value), k ≤ L.length ∧ iv = .int .i64 (k : Int) ∧ wr.ownsRow w.heap.size 52 1 u k R ∧ (∀ (j : Nat) (r : Value) (l : List RunD), R[j]? = some r → L[j]? = some l → wr.ownsRow w.heap.size 82 4 r (aT l).length (acs (aT l))) ∧ Below w.heap.size w wr) (fun _ iv _ => L.length - (Go.RowKit.intOf iv).toNat)
  case atStart => exact ⟨0, [], by omega, rfl, World.ownsRow_nil _ _ _ _, fun j r l h => by simp at h, Below.refl _ _⟩
  case round =>
    obtain ⟨k, R, hk, rfl, ho, hR, hb⟩ := hrel
    have hRl : R.length = k := by have := ho.1; omega
    by_cases hlt : k < L.length
    · have hlt' : (k : Int) < (L.length : Int) := by omega
      have hLk : L[k]? = some L[k] := by simp [hlt]
      obtain ⟨gb, go, uu, rfl, hgb, cu, hrn⟩ := hcs k _ hLk
      obtain ⟨hll, hlr⟩ := hl L[k] (List.getElem_mem hlt)
      have cA := atoms24_any uu L[k] wr (hrn.below hb) hlr hll (hal _ (List.getElem_mem hlt))
      have cu' := (hb.cell (p := ⟨gb, go + k, none⟩) hgb).trans cu
      obtain ⟨au, ku, rfl⟩ := own_form ho
      clear cu hrn hcs
      generalize L[k] = l at *
      go_wp2_with fail
      refine cA.mono ?_
      rintro e w2 ⟨r, rfl, hor, hb2⟩
      obtain ⟨ar, kr, rfl⟩ := own_form hor
      have hbw := hb.size
      have hor2 := own_mono hor hbw
      have hb3 := chain hb hb2
      have ho2 := own_below ho hb2
      have hR2 := fun j q m h1 h2 => own_below (hR j q m h1 h2) hb2
      have hbs := hb3.size
      clear cA hor hb hb2 ho hR cu'
      go_wp2_with (at_builtin; refine wpList_append_own _ rfl (.tmp 15) (.tmp 21) 51 rfl w.heap.size 52 i0 (.slice none 0 0) 1 24 Try.underlying51 hi hz0 hz1 hz2 rfl (by decide) (.slice au k ku) k R rfl (ho2.alloc _) ⟨w2.heap.size, 0, none⟩ 1 1 [.slice ar (aT l).length kr] rfl rfl (World.news_of_block (heap_alloc_new w2 _)) (by simp [Value.oneCell']) (by unfold maxLen; omega) (by omega) (by simp; omega) ?_; intro v6 w6 ho6 hg6 _)
      have s6 : Sm 82 w2 w6 := (Sm.below (alloc_b w2 _)).trans (Sm.own (ho2.alloc _) hg6 (by decide))
      have hb6 := (hb3.alloc hbs _).grown hg6 (by simp; omega) (fun j hj => (ho2.lt j hj).1)
      refine ⟨⟨k + 1, R ++ [.slice ar (aT l).length kr], by omega, by go_num, ho6, fun j q m h1 h2 => ?_, hb6⟩, by simp [Go.RowKit.intOf]; omega⟩
      by_cases hj : j < R.length
      · rw [List.getElem?_append_left hj] at h1
        exact own_sm (hR2 j q m h1 h2) s6
      · have hjk : j = k := by
          have := (List.getElem?_eq_some_iff.1 h1).1
          simp at this
          omega
        subst hjk
        rw [List.getElem?_append_right (by omega), hRl, Nat.sub_self] at h1
        cases h1
        rw [hLk] at h2
        cases h2
        exact own_sm hor2 s6
    · obtain rfl : k = L.length := by omega
      obtain ⟨au, ku, rfl⟩ := own_form ho
      have HU : ∀ j l, L[j]? = some l → ∃ g r, au = some ⟨g, 0, none⟩ ∧ g < wr.heap.size ∧ wr.cell? ⟨g, j, none⟩ = some r ∧ RdA wr r (aT l) := by
        intro j l hj
        have hjl := (List.getElem?_eq_some_iff.1 hj).1
        obtain ⟨g, c, e, h1, h2⟩ := ho.form (by omega)
        injection e with e1 _ _
        subst e1
        have hrj : R[j]? = some R[j] := by simp [show j < R.length by omega]
        have hc := ho.cells (g := g) rfl j _ hrj
        rw [addr4, Nat.zero_add] at hc
        exact ⟨g, R[j], rfl, h2, hc, rda_ln (Ln.own (hR j _ l hrj hj))⟩
      clear ho hR hcs hRl
      generalize hw1 : wr = w1 at *
      clear hw1
      go_wp2_with fail
      have hw01 := hb
      go_loopw [7] (fun iv wr => ∃ k : Nat, k ≤ L.length ∧ iv = .int .i64 (k : Int) ∧ Hid (∀ j, j < k → Fine D j) ∧ Below w1.heap.size w1 wr) (fun iv _ => L.length - (Go.RowKit.intOf iv).toNat)
      case atStart => exact ⟨0, by omega, rfl, fun j hj => by omega, Below.refl _ _⟩
      case round =>
        obtain ⟨k, hk, rfl, HF, hb⟩ := hrel
        by_cases hlt : k < L.length
        · have hlt' : (k : Int) < (L.length : Int) := by omega
          have hLk : L[k]? = some L[k] := by simp [hlt]
          have hmk := List.getElem_mem hlt
          obtain ⟨g, r, rfl, hg, hc, hrd⟩ := HU k _ hLk
          obtain ⟨ar, kr, rfl⟩ := rda_form hrd
          have hDk := hD k _ hLk
          have cS := rsound_any _ (aT L[k]) wr (hrd.below hb) (hal _ hmk)
          rw [← snd_key (hK _ hmk)] at cS
          have cG := fun (W : World) (hW : Below w1.heap.size w1 W) (j : Nat) (l : List RunD) (hj : L[j]? = some l) (vb : Value) (hvb : RdA w1 vb (aT l)) => ragree_any N _ vb (aT L[k]) (aT l) W (hrd.below hW) (hvb.below hW) (hK _ hmk) (hK _ (List.mem_of_getElem? hj)) (hal _ hmk) (hal _ (List.mem_of_getElem? hj))
          have hc' := (hb.cell (p := ⟨g, k, none⟩) hg).trans hc
          clear hrd hmk hLk
          generalize (aT L[k]).length = nk at *
          generalize dA N (aT L[k]) = row at *
          have HB : Hid (sndD row = false → ChkIs D k k false) := fun q => .inr ⟨rfl, HF.out, _, hDk, .inl ⟨q, rfl⟩⟩
          cases hs : sndD row with
          | false =>
            rw [hs] at cS
            have HX : Hid (ChkIs D k k false) := HB.out hs
            clear HB cG HU hD
            go_wp2_with fail
            refine cS.mono ?_
            rintro e w2 ⟨rfl, hb2⟩
            have hbW := chain hw01 (chain hb hb2)
            clear cS hc'
            go_wp2_with fail
            go_ret3
            exact ⟨k, k, false, rfl, HX.out, hbW⟩
          | true =>
            rw [hs] at cS
            have HFI : Hid ((∀ j q, k < j → D[j]? = some q → sndD q = true → agF q row ≠ none) → ∀ j, j < k + 1 → Fine D j) := fun h j hj => by
              by_cases hjk : j = k
              · subst hjk
                intro q hq
                rw [hDk] at hq
                cases hq
                exact ⟨hs, h⟩
              · exact HF.out j (by omega)
            have HBD : Hid (∀ j q, k < j → D[j]? = some q → sndD q = true → agF q row = none → (∀ t q, k < t → t < j → D[t]? = some q → sndD q = true → agF q row ≠ none) → ChkIs D k j false) := fun j q h1 h2 h3 h4 h5 => .inr ⟨rfl, HF.out, row, hDk, .inr ⟨hs, h1, ⟨q, h2, h3, h4⟩, h5⟩⟩
            clear HB hs HF hDk
            go_wp2_with fail
            refine cS.mono ?_
            rintro e w2 ⟨rfl, hb2⟩
            have hb3 := chain hb hb2
            clear cS hb hb2 hc'
            generalize wr = wb at *
            go_wp2_with fail
            go_loopw [8] (fun iv wr => ∃ j : Nat, k + 1 ≤ j ∧ j ≤ L.length ∧ iv = .int .i64 (j : Int) ∧ Hid (∀ t q, k < t → t < j → D[t]? = some q → sndD q = true → agF q row ≠ none) ∧ Below w1.heap.size w1 wr) (fun iv _ => L.length - (Go.RowKit.intOf iv).toNat)
            case atStart => exact ⟨k + 1, by omega, by omega, by go_num, fun t q h1 h2 => by omega, hb3⟩
            case round =>
              obtain ⟨j, hj1, hj2, rfl, HJ, hb⟩ := hrel
              clear hb3
              by_cases hlj : j < L.length
              · have hlj' : (j : Int) < (L.length : Int) := by omega
                have hLj : L[j]? = some L[j] := by simp [hlj]
                have hmj := List.getElem_mem hlj
                obtain ⟨g', r, e1, hg', hcj, hrdj⟩ := HU j _ hLj
                injection e1 with e1
                injection e1 with e1 _
                subst e1
                obtain ⟨aj, kj, rfl⟩ := rda_form hrdj
                have hDj := hD j _ hLj
                have cSj : ∀ s : Beh wr, Calls Try.prog 18 #[.slice aj (aT L[j]).length kj] s.it fun e w' => e = .returned (.bool (sndD (dA N (aT L[j])))) ∧ Below s.it.heap.size s.it w' := fun s => by
                  rw [snd_key (hK _ hmj)]
                  exact rsound_any _ (aT L[j]) s.it (hrdj.below (chain hb s.h)) (hal _ hmj)
                have cGj : ∀ s : Beh wr, Calls Try.prog 19 #[.slice ar nk kr, .slice aj (aT L[j]).length kj] s.it fun e w' => e = .returned (.bool (agF (dA N (aT L[j])) row).isSome) ∧ Below s.it.heap.size s.it w' := fun s => cG s.it (chain hb s.h) j _ hLj _ hrdj
                have x0 : ∀ s : Beh wr, s.it.cell? ⟨g, k, none⟩ = some (.slice ar nk kr) := fun s => ((chain hb s.h).cell (p := ⟨g, k, none⟩) hg).trans hc
                have x1 : ∀ s : Beh wr, s.it.cell? ⟨g, j, none⟩ = some (.slice aj (aT L[j]).length kj) := fun s => ((chain hb s.h).cell (p := ⟨g, j, none⟩) hg).trans hcj
                have HJ2 : Hid (sndD (dA N (aT L[j])) = false ∨ agF (dA N (aT L[j])) row ≠ none → ∀ t q, k < t → t < j + 1 → D[t]? = some q → sndD q = true → agF q row ≠ none) := fun h t q h1 h2 h3 h4 => by
                  by_cases htj : t = j
                  · subst htj
                    rw [hDj] at h3
                    cases h3
                    rcases h with h | h
                    · rw [h] at h4; cases h4
                    · exact h
                  · exact HJ.out t q h1 (by omega) h3 h4
                have HJ3 : Hid (sndD (dA N (aT L[j])) = true → agF (dA N (aT L[j])) row = none → ChkIs D k j false) := fun h1 h2 => HBD.out j _ (by omega) hDj h1 h2 HJ.out
                clear hrdj hDj hmj hLj HJ
                generalize (aT L[j]).length = nj at *
                generalize dA N (aT L[j]) = rj at *
                cases hsj : sndD rj with
                | false =>
                  simp only [hsj] at cSj
                  have HX : Hid (∀ t q, k < t → t < j + 1 → D[t]? = some q → sndD q = true → agF q row ≠ none) := HJ2.out (.inl hsj)
                  clear HJ2 HJ3 hsj HU hD cG
                  go_wp2_with fail
                  refine wp_region_beh (by kernel_rfl) (by kernel_rfl) ?_
                  repeat (go_big_quiet_step ((first | (go_at_call 18; exact Beh.call (cSj _)) | (go_at_call 19; exact Beh.call (cGj _)))))
                  refine wpQuiet_nil ?_
                  intro wq hw'
                  have hwq := Beh.out hw'
                  clear hw' x0 x1 cSj cGj
                  go_wp2_with fail
                  exact ⟨⟨j + 1, by omega, by omega, by go_num, HX, chain hb hwq⟩, by simp [Go.RowKit.intOf]; omega⟩
                | true =>
                  simp only [hsj] at cSj
                  cases hag : agF rj row with
                  | none =>
                    simp only [hag, Option.isSome_none] at cGj
                    have HX : Hid (ChkIs D k j false) := HJ3.out hsj hag
                    clear HJ2 HJ3 hsj hag HU hD cG
                    go_wp2_with fail
                    refine wp_region_beh (by kernel_rfl) (by kernel_rfl) ?_
                    repeat (go_big_quiet_step ((first | (go_at_call 18; exact Beh.call (cSj _)) | (go_at_call 19; exact Beh.call (cGj _)))))
                    refine wpQuiet_nil ?_
                    intro wq hw'
                    have hwq := Beh.out hw'
                    clear hw' x0 x1 cSj cGj
                    go_wp2_with fail
                    go_ret3
                    exact ⟨k, j, false, rfl, HX.out, chain hw01 (chain hb hwq)⟩
                  | some z =>
                    simp only [hag, Option.isSome_some] at cGj
                    have HX : Hid (∀ t q, k < t → t < j + 1 → D[t]? = some q → sndD q = true → agF q row ≠ none) := HJ2.out (.inr (by rw [hag]; simp))
                    clear HJ2 HJ3 hsj hag HU hD cG
                    go_wp2_with fail
                    refine wp_region_beh (by kernel_rfl) (by kernel_rfl) ?_
                    repeat (go_big_quiet_step ((first | (go_at_call 18; exact Beh.call (cSj _)) | (go_at_call 19; exact Beh.call (cGj _)))))
                    refine wpQuiet_nil ?_
                    intro wq hw'
                    have hwq := Beh.out hw'
                    clear hw' x0 x1 cSj cGj
                    go_wp2_with fail
                    exact ⟨⟨j + 1, by omega, by omega, by go_num, HX, chain hb hwq⟩, by simp [Go.RowKit.intOf]; omega⟩
              · obtain rfl : j = L.length := by omega
                have HX : Hid (∀ j, j < k + 1 → Fine D j) := HFI.out (fun t q h1 h2 h3 => HJ.out t q h1 (by have := (List.getElem?_eq_some_iff.1 h2).1; omega) h2 h3)
                clear HFI HBD HJ HU hD cG
                go_wp2_with fail
                exact ⟨⟨k + 1, by omega, by go_num, HX, hb⟩, by simp [Go.RowKit.intOf]; omega⟩
        · obtain rfl : k = L.length := by omega
          have HX : Hid (ChkIs D 0 0 true) := .inl ⟨rfl, rfl, rfl, fun i row hr => by
            have := (List.getElem?_eq_some_iff.1 hr).1
            exact HF.out i (by omega) row hr⟩
          have hbW := chain hw01 hb
          clear HF HU hD
          go_wp2_with fail
          go_ret3
          exact ⟨0, 0, true, rfl, HX.out, hbW⟩
end Go.Proofs.Ytjimolafoihnpaa.tc
