/-
  logged.
-/
import Derived.Test.YtblhmfkohbdmeaaWalL
import Derived.Deep.DeepCutAuto
namespace Go.Proofs.Ytblhmfkohbdmeaa
open Go.RowKit Go.Maps

/-- What the slots hold for the first k sectors of l. -/
def slotF (s : DevS) (N : Nat) (l : List Nat) : Nat → SecF
  | 0 => fun _ => none
  | k + 1 => putF (slotF s N l k) (l.getD k 0) (s.readAt (N + 1 + k))

theorem below_setCells {B b : Nat} (hb : B ≤ b) {a : World} : ∀ (vs : List Value) (o : Nat) (w : World), Below B a w → Below B a (w.setCells b o vs)
  | [], _, _, h => h
  | v :: vs, o, _, h => below_setCells hb vs (o + 1) _ (h.setCell (p := ⟨b, o, none⟩) hb v)

theorem there_new (W : World) : (W.alloc (.cells zeroC.toArray 97)).there W.heap.size 0 64 := fun j hj => by
  have h := heap_alloc_last W (.cells zeroC.toArray 97)
  rw [cell_at h, frozen_at h]
  refine ⟨?_, rfl⟩
  have : j < zeroC.length := by rw [zeroC_len]; omega
  simp [this]

theorem there_below {W W' : World} {b n : Nat} (h : W.there b 0 n) (hb : Below W.heap.size W W') (hl : b < W.heap.size) : W'.there b 0 n := fun j hj => by
  rw [hb.cell (p := ⟨b, 0 + j, none⟩) hl, hb.frozen (p := ⟨b, 0 + j, none⟩) hl]
  exact h j hj

theorem bv_ones (t : Sec) : ∀ v ∈ bv t, v.oneCell' = true := by
  intro v hv
  obtain ⟨b, _, rfl⟩ := List.mem_map.1 hv
  rfl

set_option maxRecDepth 20000 in
set_option maxHeartbeats 4000000 in
theorem logged_no {w : World} {r p bs bw : Nat} {age : Int} {lost : Bool} {s : DevS} {N : Nat} (hw : IsWal w r p age lost) (hd : IsDev w p bs bw s) (hN : s.n = N + 25) (hu : s.up = true) (h24 : 24 < ((s.readAt N).getD 0 0).toNat) :
    Calls Try.prog 62 #[.pointer (some ⟨r, 0, none⟩)] w fun e w' => e = .returned (.tuple #[.map none, .bool false]) ∧ Below w.heap.size w w' := by
  have hc0 := (hw.kept (Only.drew [] w) (by simp)).cells
  have hzW := Try.zeroW
  have h64 := hd.readLen N
  have hsz : (bv (s.readAt N)).length = 64 := by rw [bv_len, h64]
  have hiW : (Try.prog.info? 97).map (·.size) = some (bv (s.readAt N)).length := by rw [hsz]; exact Try.sizeW
  have h1s := bv_ones (s.readAt N)
  have hN' : (s.n : Int) - 25 = (N : Int) := by omega
  have cH : ∀ W, Below w.heap.size w W → Calls Try.prog 44 #[.pointer (some ⟨r, 0, none⟩)] W fun e w' => e = .returned (.int .i64 (N : Int)) ∧ w' = W := fun W h => by
    have := heading_any (hw.below h) (hd.below h)
    rw [hN'] at this
    exact this
  have cG : ∀ W, Below w.heap.size w W → _ := fun W h => get_any (hd.below h) N (by omega) hu
  have cS := fun W => sectorsOf_no (w := W) (some ⟨r, 0, none⟩) (s.readAt N) h64 h24
  have hWl : ∀ W, Below w.heap.size w W → W.cell? ⟨r, 0, none⟩ = some (.pointer (some ⟨p, 0, none⟩)) ∧ W.cell? ⟨r, 1, none⟩ = some (.int .i64 age) ∧ W.cell? ⟨r, 2, none⟩ = some (.bool lost) := fun W h => (hw.below h).cells
  have hBd : Below w.heap.size w w.drew := (Below.refl _ _).drew
  have hBa : Below w.heap.size w (w.drew.alloc (.cells zeroC.toArray 97)) := hBd.alloc (Nat.le_refl _) _
  have hth := there_new w.drew
  have hup := Try.underlying97
  clear hd hw hN h24
  generalize s.readAt N = t at *
  go_enter Try.func62, Try.ntmps62
  go_upto_region 1 with fail
  go_cut [4] (fun v wx => ∃ pb, v = .pointer (some ⟨pb, 0, none⟩) ∧ wx.rangeAt pb 0 (bv t) ∧ w.heap.size ≤ pb ∧ pb < wx.heap.size ∧ Below w.heap.size w wx)
  case first =>
    go_region_held3 (fun W => W.cell? ⟨r, 0, none⟩ = some (.pointer (some ⟨p, 0, none⟩)) ∧ W.cell? ⟨r, 1, none⟩ = some (.int .i64 age) ∧ W.cell? ⟨r, 2, none⟩ = some (.bool lost)) (first | assumption | exact hWl _ hBa | exact hWl _ (hB4.alloc hB4.size _) | exact hWl _ (below_setCells (Nat.le_refl _) _ _ _ hB4) | exact hWl _ (below_setCells hB4.size _ _ _ (hB4.alloc hB4.size _)) | go_keep)
      (first
        | (go_at_call 44; refine (cH _ (by first | exact hBd | exact hBa)).mono ?_; rintro e w' ⟨rfl, hw⟩; rw [hw]; clear hw w')
        | (go_at_call 58; refine (cG _ hBa).mono ?_; rintro e w4 ⟨rfl, hb4⟩; have hB4 : Below w.heap.size w w4 := hBa.trans (hb4.mono hBa.size); have hc4 := hWl _ hB4; have hth4 := there_below hth hb4 (by show w.heap.size < _; simp))
        | (go_at_call 58; refine (cG _ hBd).mono ?_; rintro e w4 ⟨rfl, hb4⟩; have hB4 : Below w.heap.size w w4 := hBd.trans hb4; have hc4 := hWl _ hB4; have hth4 := there_new w4))
    all_goals
      have hs4 := hb4.size
      have hs5 := (below_setCells (Nat.le_refl w.heap.size) (bv t) 0 w4 (Below.refl _ w4)).size
      have hs6 := (below_setCells (B := w4.heap.size) (Nat.le_refl w4.heap.size) (bv t) 0 _ (Below.refl _ (w4.alloc (.cells zeroC.toArray 97)))).size
      have hsa : (w.drew.alloc (.cells zeroC.toArray 97)).heap.size = w.heap.size + 1 := World.size_alloc _ _
      have hsb : (w4.alloc (.cells zeroC.toArray 97)).heap.size = w4.heap.size + 1 := World.size_alloc _ _
      rw [← hsz] at hth4
      clear cH cG cS
      go_wp2_with fail
      go_meet
    all_goals first
      | exact ⟨_, rfl, World.rangeAt_setCells_same _ _ _ _ hth4, Nat.le_refl _, by omega, below_setCells (Nat.le_refl _) _ _ _ hB4⟩
      | exact ⟨_, rfl, World.rangeAt_setCells_same _ _ _ _ hth4, hB4.size, by omega, below_setCells hB4.size _ _ _ (hB4.alloc hB4.size _)⟩
  case rest =>
    obtain ⟨pb, rfl, hran, hpb, hpl, hBx⟩ := hcut
    go_wp2_with (first
      | (with_reducible refine at_load 97 _ rfl ?_; refine wpList_load_mid rfl 97 _ rfl pb 0 rfl (bv t) _ hran Try.underlying97 rfl hiW ?_)
      | (go_at_call 78; refine (cS _).mono ?_; rintro e w5 ⟨rfl, hb5⟩))
    go_ret2
    exact ⟨rfl, hBx.trans (hb5.mono hBx.size)⟩
set_option maxRecDepth 20000 in
set_option maxHeartbeats 4000000 in
theorem logged_ok {w : World} {r p bs bw : Nat} {age : Int} {lost : Bool} {s : DevS} {N : Nat} (hw : IsWal w r p age lost) (hd : IsDev w p bs bw s) (hN : s.n = N + 25) (hu : s.up = true) (l : List Nat) (hl : l.length ≤ 24) (hlN : ∀ x ∈ l, x < N) (hri : l.Pairwise (· < ·)) (hhd : s.readAt N = hdL l l.length) :
    Calls Try.prog 62 #[.pointer (some ⟨r, 0, none⟩)] w fun e w' => ∃ b, e = .returned (.tuple #[.map (some b), .bool true]) ∧ w'.ownsMap Try.prog 3 secR b N (DF N (slotF s N l l.length)) ∧ w.heap.size ≤ b ∧ Below w.heap.size w w' := by
  have hc0 := (hw.kept (Only.drew [] w) (by simp)).cells
  have hzW := Try.zeroW
  have h64 := hd.readLen N
  have hsz : (bv (s.readAt N)).length = 64 := by rw [bv_len, h64]
  have hiW : (Try.prog.info? 97).map (·.size) = some (bv (s.readAt N)).length := by rw [hsz]; exact Try.sizeW
  have h1s := bv_ones (s.readAt N)
  have hN' : (s.n : Int) - 25 = (N : Int) := by omega
  have cH : ∀ W, Below w.heap.size w W → Calls Try.prog 44 #[.pointer (some ⟨r, 0, none⟩)] W fun e w' => e = .returned (.int .i64 (N : Int)) ∧ w' = W := fun W h => by
    have := heading_any (hw.below h) (hd.below h)
    rw [hN'] at this
    exact this
  have cG : ∀ W, Below w.heap.size w W → _ := fun W h => get_any (hd.below h) N (by omega) hu
  have cS : ∀ W, Below w.heap.size w W → _ := fun W h => sectorsOf_ok (hw.below h) (hd.below h) hN l hl hlN hri
  rw [← hhd] at cS
  have hN8 : N ≤ 8192 := by have := hd.hi; omega
  have cSl : ∀ W (k : Nat), k ≤ 24 → Below w.heap.size w W → Calls Try.prog 72 #[.pointer (some ⟨r, 0, none⟩), .int .i64 (k : Int)] W fun e w' => e = .returned (.int .i64 ((N + 1 + k : Nat) : Int)) ∧ w' = W := fun W k hk h => by
    have := slot_any (hw.below h) (hd.below h) k (by omega)
    rw [show (s.n : Int) - 24 + (k : Int) = ((N + 1 + k : Nat) : Int) by omega] at this
    exact this
  have cGk : ∀ W (k : Nat), k < 24 → Below w.heap.size w W → _ := fun W k hk h => get_any (hd.below h) (N + 1 + k) (by omega) hu
  have hRl := fun k => hd.readLen (N + 1 + k)
  have HSF : Hid (∀ k, slotF s N l (k + 1) = putF (slotF s N l k) (l.getD k 0) (s.readAt (N + 1 + k))) := fun k => rfl
  have hmm := @run_makeMap Try.prog
  have hWl : ∀ W, Below w.heap.size w W → W.cell? ⟨r, 0, none⟩ = some (.pointer (some ⟨p, 0, none⟩)) ∧ W.cell? ⟨r, 1, none⟩ = some (.int .i64 age) ∧ W.cell? ⟨r, 2, none⟩ = some (.bool lost) := fun W h => (hw.below h).cells
  have hBd : Below w.heap.size w w.drew := (Below.refl _ _).drew
  have hBa : Below w.heap.size w (w.drew.alloc (.cells zeroC.toArray 97)) := hBd.alloc (Nat.le_refl _) _
  have hth := there_new w.drew
  have hup := Try.underlying97
  clear hd hw hN hhd
  generalize s.readAt N = t at *
  go_enter Try.func62, Try.ntmps62
  go_upto_region 1 with fail
  go_cut [4] (fun v wx => ∃ pb, v = .pointer (some ⟨pb, 0, none⟩) ∧ wx.rangeAt pb 0 (bv t) ∧ w.heap.size ≤ pb ∧ pb < wx.heap.size ∧ Below w.heap.size w wx)
  case first =>
    go_region_held3 (fun W => W.cell? ⟨r, 0, none⟩ = some (.pointer (some ⟨p, 0, none⟩)) ∧ W.cell? ⟨r, 1, none⟩ = some (.int .i64 age) ∧ W.cell? ⟨r, 2, none⟩ = some (.bool lost)) (first | assumption | exact hWl _ hBa | exact hWl _ (hB4.alloc hB4.size _) | exact hWl _ (below_setCells (Nat.le_refl _) _ _ _ hB4) | exact hWl _ (below_setCells hB4.size _ _ _ (hB4.alloc hB4.size _)) | go_keep)
      (first
        | (go_at_call 44; refine (cH _ (by first | exact hBd | exact hBa)).mono ?_; rintro e w' ⟨rfl, hw⟩; rw [hw]; clear hw w')
        | (go_at_call 58; refine (cG _ hBa).mono ?_; rintro e w4 ⟨rfl, hb4⟩; have hB4 : Below w.heap.size w w4 := hBa.trans (hb4.mono hBa.size); have hc4 := hWl _ hB4; have hth4 := there_below hth hb4 (by show w.heap.size < _; simp))
        | (go_at_call 58; refine (cG _ hBd).mono ?_; rintro e w4 ⟨rfl, hb4⟩; have hB4 : Below w.heap.size w w4 := hBd.trans hb4; have hc4 := hWl _ hB4; have hth4 := there_new w4))
    all_goals
      have hs4 := hb4.size
      have hs5 := (below_setCells (Nat.le_refl w.heap.size) (bv t) 0 w4 (Below.refl _ w4)).size
      have hs6 := (below_setCells (B := w4.heap.size) (Nat.le_refl w4.heap.size) (bv t) 0 _ (Below.refl _ (w4.alloc (.cells zeroC.toArray 97)))).size
      have hsa : (w.drew.alloc (.cells zeroC.toArray 97)).heap.size = w.heap.size + 1 := World.size_alloc _ _
      have hsb : (w4.alloc (.cells zeroC.toArray 97)).heap.size = w4.heap.size + 1 := World.size_alloc _ _
      rw [← hsz] at hth4
      clear cH cG cS cSl cGk
      go_wp2_with fail
      go_meet
    all_goals first
      | exact ⟨_, rfl, World.rangeAt_setCells_same _ _ _ _ hth4, Nat.le_refl _, by omega, below_setCells (Nat.le_refl _) _ _ _ hB4⟩
      | exact ⟨_, rfl, World.rangeAt_setCells_same _ _ _ _ hth4, hB4.size, by omega, below_setCells hB4.size _ _ _ (hB4.alloc hB4.size _)⟩
  case rest =>
    obtain ⟨pb, rfl, hran, hpb, hpl, hBx⟩ := hcut
    have cSx := cS _ hBx
    clear cH cG cS hBa hBd hth
    go_wp2_with (first
      | (with_reducible refine at_load 97 _ rfl ?_; refine wpList_load_mid rfl 97 _ rfl pb 0 rfl (bv t) _ hran Try.underlying97 rfl hiW ?_)
      | (go_at_call 78; refine cSx.mono ?_; rintro e w5 ⟨v, rfl, hrow, hb5⟩; obtain ⟨ao, cp, rfl, hao⟩ := own_shape hrow))
    have hB5 : Below w.heap.size w w5 := hBx.trans (hb5.mono hBx.size)
    have hM0 : (w5.alloc (.map #[] 0)).ownsMap Try.prog 3 secR w5.heap.size N (DF N (slotF s N l 0)) := by
      have e : DF N (slotF s N l 0) = .map [] := DF_none N
      rw [e]
      exact (World.ownsMap_made w5 Try.prog 3 secR).mono (Nat.zero_le _)
    have hO0 : Only [w5.heap.size] w5 (w5.alloc (.map #[] 0)) := Only.alloc _ _ _
    have hl' : (l.length : Int) ≤ 24 := by omega
    clear hmm cSx hrow hran hpb hpl hBx hb5
    go_loopw [28] (fun i wr => ∃ k : Nat, k ≤ l.length ∧ i = .int .i64 (k : Int) ∧ wr.ownsMap Try.prog 3 secR w5.heap.size N (DF N (slotF s N l k)) ∧ Only [w5.heap.size] w5 wr)
      (fun i _ => l.length - (intOf i).toNat)
    case atStart => exact ⟨0, Nat.zero_le _, rfl, hM0, hO0⟩
    case round =>
      obtain ⟨k, hk, rfl, hMk, hOk⟩ := hrel
      clear hM0 hO0
      have hBk : Below w.heap.size w wr := hB5.trans (hOk.below hB5.size (by simpa using hB5.size))
      by_cases hlt : k < l.length
      · have hlt' : (k : Int) < (l.length : Int) := by omega
        obtain ⟨g, rfl, hg0, hg1, hcp, hcell⟩ := hao (by omega)
        have hck : wr.cell? ⟨g, k, none⟩ = some (.int .i64 (l[k] : Int)) := by
          rw [World.cell?_of_block (a := ⟨g, k, none⟩) (hOk.block g hg1 (by simp; omega)), hcell k hlt]
          simp [iv, hlt]
        have hqN := hlN _ (List.getElem_mem hlt)
        have hgd : l.getD k 0 = l[k] := by simp [List.getD, hlt]
        have HS1 := HSF.out k
        rw [hgd] at HS1
        have H1 : Hid _ := HS1
        clear HS1 hgd hao hcell
        generalize l[k] = q at *
        have hBkd : Below w.heap.size w wr.drew := hBk.drew
        have cS1 := cSl wr.drew k (by omega) hBkd
        have cG1 := cGk wr.drew k (by omega) hBkd
        have ht64 := hRl k
        have hff : DF N (slotF s N l (k + 1)) = (DF N (slotF s N l k)).put (.int .i64 (q : Int)) (.lit (.string (s.readAt (N + 1 + k)))) := by
          rw [H1.out, put_DF _ hqN]
        have hst : ∀ W, W.ownsMap Try.prog 3 secR w5.heap.size N (DF N (slotF s N l k)) → ∃ w', (Instr.mapUpdate 91 (.map (some w5.heap.size)) (.int .i64 (q : Int)) (.agg (bv (s.readAt (N + 1 + k))).toArray)).run Try.prog W = .ok () w' ∧ w'.ownsMap Try.prog 3 secR w5.heap.size N (DF N (slotF s N l (k + 1))) ∧ Only [w5.heap.size] W w' := fun W hW => by
          obtain ⟨w', h1, h2, h3⟩ := hW.store keyed Try.underlying91 (by unfold maxLen; omega) (key_nat q (by omega)) (secR_mk ht64)
          exact ⟨w', h1, tight (hff ▸ h2), Only.of_grown h3.grown (by simp)⟩
        have hMd := ownsMap_only hMk (Only.drew [] wr) (by simp)
        have hOd := hOk.trans (Only.drew _ wr)
        have hcd := hWl _ hBkd
        obtain ⟨d1, d2, d3⟩ := hWl _ hBk
        clear hff ht64 H1 cSl cGk HSF hMk hRl hlN hri
        generalize s.readAt (N + 1 + k) = x at *
        generalize N + 1 + k = sl at *
        go_wp2_with fail
        clear hck d1 d2 d3
        go_region_held3 (fun W => W.cell? ⟨r, 0, none⟩ = some (.pointer (some ⟨p, 0, none⟩)) ∧ W.cell? ⟨r, 1, none⟩ = some (.int .i64 age) ∧ W.cell? ⟨r, 2, none⟩ = some (.bool lost)) (first | assumption | go_keep)
          (first
            | (go_at_call 72; refine cS1.mono ?_; rintro e w' ⟨rfl, hw⟩; rw [hw]; clear hw w')
            | (go_at_call 58; refine cG1.mono ?_; rintro e w6 ⟨rfl, hb6⟩; have hO6 := hOd.trans (Only.of_below hb6); have hM6 := ownsMap_only hMd (Only.of_below (S := []) hb6) (by simp); obtain ⟨w7, hrun7, hM7, ho7⟩ := hst _ hM6; have hO7 := hO6.trans ho7; have hc6 := hWl w6 (hB5.trans (hO6.below hB5.size (by simpa using hB5.size))); have hc7 := hWl w7 (hB5.trans (hO7.below hB5.size (by simpa using hB5.size)))))
        clear hc6 hc7 hcd hrun7 hM6 hMd
        go_wp2_with fail
        go_roundw
        case rel => exact ⟨k + 1, by omega, by go_num, hM7, hO7⟩
        case measure => simp [intOf]; omega
      · obtain rfl : k = l.length := by omega
        have hlt' : ¬ (l.length : Int) < (l.length : Int) := by omega
        clear hao hri hlN cSl cGk
        go_wp2_with fail
        go_ret2
        exact ⟨_, rfl, hMk, hB5.size, hBk⟩

end Go.Proofs.Ytblhmfkohbdmeaa
