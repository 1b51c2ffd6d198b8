/-
  Commit.
-/
import Derived.Test.YtblhmfkohbdmeaaWalJ
namespace Go.Proofs.Ytblhmfkohbdmeaa
open Go.RowKit Go.Maps

set_option maxHeartbeats 400000 in
theorem commit_note {w : World} {r p x y : Nat} {age e : Int} {lost : Bool} (hw : IsWal w r p age lost) (h1 : w.cell? ⟨x, 0, none⟩ = some (.pointer (some ⟨r, 0, none⟩))) (h2 : w.cell? ⟨y, 0, none⟩ = some (.int .i64 e)) (u : FrameMode) :
    CallsD Try.prog 52 #[.pointer (some ⟨x, 0, none⟩), .pointer (some ⟨y, 0, none⟩)] u w fun z u' w' => u' = u ∧ z = .returned (.tuple #[]) ∧ IsWal w' r p age (lost || e == 3) ∧ Only [r] w w' := by
  have c := note_any hw e
  clear hw
  go_enter_d Try.func52, Try.ntmps52
  go_wp2_with (first | (go_at_call 42; refine c.mono ?_; rintro e w' ⟨rfl, hw', ho'⟩))
  go_end0
  exact ⟨rfl, hw', ho'⟩

/-- What a Commit that may be does. -/
def commitD (s : DevS) (N : Nat) (l : List WrD) : Int × DevS := if l = [] then s.sync else homeD (logD s (fOf l) N) (fOf l) N

set_option maxRecDepth 20000 in
set_option maxHeartbeats 2000000 in
theorem commit_down {w : World} {r p bs bw : Nat} {age : Int} {lost : Bool} {s : DevS} (hw : IsWal w r p age lost) (hd : IsDev w p bs bw s) (v : Value) (hr : rdy s age lost = false) :
    Calls Try.prog 28 #[.pointer (some ⟨r, 0, none⟩), v] w fun e w' => e = .returned (.int .i64 3) ∧ IsWal w' r p age true ∧ IsDev w' p bs bw s ∧ Only [r, p, bs, bw] w w' := by
  have hmf : ∀ (fn : Fn) (first cap : Array Value) (w : World), (Instr.makeFunc fn first cap).run Try.prog w = .ok (.func fn first cap) w := fun _ _ _ _ => rfl
  have hE := env_start hw hd
  have cR := ready_any hE.wal hE.dev
  have e3 : rdyE s age lost = 3 := by simp [rdyE, hr]
  rw [e3] at cR
  clear hw hd e3 hr
  go_enter_defers Try.func28, Try.ntmps28
  go_wp2_with (first
    | (go_at_call 43; refine cR.mono ?_; rintro e w2 ⟨rfl, j, hw2⟩; rw [hw2]; clear hw2 w2; have hE2 := (hE.drewN j).store 3; obtain ⟨c1, c2, c3⟩ := hE2.cells; have hE3 := hE2.store 3))
  refine leaves_cons (f := 52) (args := #[.pointer (some ⟨w.heap.size, 0, none⟩), .pointer (some ⟨w.heap.size + 1, 0, none⟩)]) (by simp) (by simp [go_sem]) ?_
  refine (commit_note hE3.wal hE3.cells.1 hE3.cells.2.1 .returning).mono ?_
  rintro e u' w'' ⟨rfl, rfl, hw', ho'⟩
  obtain ⟨f1, f2, f3, f4⟩ := hE3.out hw' ho'
  rw [show (lost || (3 : Int) == 3) = true by simp] at f1
  exact ⟨.int .i64 3, by rw [results_cell1 rfl]; simp [asAddr, go_sem, f4], rfl, f1, f2, f3⟩

set_option maxRecDepth 20000 in
set_option maxHeartbeats 4000000 in
theorem commit_arg {w : World} {r p bs bw : Nat} {age : Int} {lost : Bool} {s : DevS} {v : Value} {l : List WrD} {N : Nat} (hw : IsWal w r p age lost) (hd : IsDev w p bs bw s) (hv : RdWr w v l) (hl : l.length ≤ maxLen) (ho : ∀ o ∈ l, o.Ok) (hN : s.n = N + 25) (hr : rdy s age lost = true) (hb : apartE N l ≠ 0) :
    Calls Try.prog 28 #[.pointer (some ⟨r, 0, none⟩), v] w fun e w' => e = .returned (.int .i64 (apartE N l)) ∧ IsWal w' r p age lost ∧ IsDev w' p bs bw s ∧ Only [r, p, bs, bw] w w' := by
  have hmf : ∀ (fn : Fn) (first cap : Array Value) (w : World), (Instr.makeFunc fn first cap).run Try.prog w = .ok (.func fn first cap) w := fun _ _ _ _ => rfl
  have hE := env_start hw hd
  have cR := ready_any hE.wal hE.dev
  have e3 : rdyE s age lost = 0 := by simp [rdyE, hr]
  rw [e3] at cR
  have hA : ∀ e', Only [p, bs, bw, w.heap.size + 1] w ((((w.alloc (.cells #[.pointer (some ⟨r, 0, none⟩)] 32)).alloc (.cells #[.int .i64 0] 24)).drewN e').setCell ⟨w.heap.size + 1, 0, none⟩ (.int .i64 0)) := fun e' =>
    (((Only.alloc _ _ _).trans (Only.alloc _ _ _)).trans (Only.drewN _ _ _)).trans (Only.setCell _ (by simp) _)
  have cA : ∀ W, Env w W r p bs bw age lost s 0 → RdWr W v l → Calls Try.prog 53 #[.pointer (some ⟨r, 0, none⟩), v] W fun e w' => e = .returned (.tuple #[.map none, .int .i64 (apartE N l)]) ∧ Below W.heap.size W w' := fun W hW hvW =>
    (apart_any hW.wal hW.dev hvW hl ho hN).mono fun e w' ⟨h1, h2⟩ => by
      rcases h1 with ⟨_, h1⟩ | ⟨h1, _⟩
      · exact ⟨h1, h2⟩
      · exact absurd h1 hb
  have hvb : ∀ W, Below w.heap.size w W → RdWr W v l := fun W h => hv.below h rfl
  have hb3 : apartE N l ≠ 3 := by unfold apartE; split <;> (try split) <;> omega
  have hb3' : (apartE N l == 3) = false := by simpa using hb3
  have hbn : (apartE N l != 0) = true := by simpa using hb
  have hBA : ∀ e', Below w.heap.size w ((((w.alloc (.cells #[.pointer (some ⟨r, 0, none⟩)] 32)).alloc (.cells #[.int .i64 0] 24)).drewN e').setCell ⟨w.heap.size + 1, 0, none⟩ (.int .i64 0)) := fun e' =>
    ((((Only.alloc [w.heap.size + 1] w _).trans (Only.alloc _ _ _)).trans (Only.drewN _ _ _)).trans (Only.setCell _ (by simp) _)).below (Nat.le_refl _) (by simp)
  clear hw hd e3 hr hb hv hl ho hN hA hb3
  generalize apartE N l = er at *
  go_enter_defers Try.func28, Try.ntmps28
  go_wp2_with (first
    | (go_at_call 43; refine cR.mono ?_; rintro e w2 ⟨rfl, j, hw2⟩; rw [hw2]; clear hw2 w2; have hE2 := (hE.drewN j).store 0; obtain ⟨c1, c2, c3⟩ := hE2.cells; have hv2 := hvb _ (hBA j))
    | (go_at_call 53; refine (cA _ hE2 hv2).mono ?_; rintro e w3 ⟨rfl, hb3⟩; have hE3 := hE2.below hb3; obtain ⟨d1, d2, d3⟩ := hE3.cells; have hE4 := hE3.store er; obtain ⟨a1, a2, a3⟩ := hE4.cells; have hE5 := hE4.store er))
  refine leaves_cons (f := 52) (args := #[.pointer (some ⟨w.heap.size, 0, none⟩), .pointer (some ⟨w.heap.size + 1, 0, none⟩)]) (by simp) (by simp [go_sem]) ?_
  refine (commit_note hE5.wal hE5.cells.1 hE5.cells.2.1 .returning).mono ?_
  rintro e u' w'' ⟨rfl, rfl, hw', ho'⟩
  obtain ⟨f1, f2, f3, f4⟩ := hE5.out hw' ho'
  rw [show (lost || er == 3) = lost by rw [hb3']; simp] at f1
  exact ⟨.int .i64 er, by rw [results_cell1 rfl]; simp [asAddr, go_sem, f4], rfl, f1, f2, f3⟩

set_option maxRecDepth 20000 in
set_option maxHeartbeats 4000000 in
theorem commit_go {w : World} {r p bs bw : Nat} {age : Int} {lost : Bool} {s : DevS} {v : Value} {l : List WrD} {N : Nat} (hw : IsWal w r p age lost) (hd : IsDev w p bs bw s) (hv : RdWr w v l) (hl : l.length ≤ maxLen) (ho : ∀ o ∈ l, o.Ok) (hN : s.n = N + 25) (hr : rdy s age lost = true) (hb : apartE N l = 0) :
    Calls Try.prog 28 #[.pointer (some ⟨r, 0, none⟩), v] w fun e w' => e = .returned (.int .i64 (commitD s N l).1) ∧ IsWal w' r p age (lost || (commitD s N l).1 == 3) ∧ IsDev w' p bs bw (commitD s N l).2 ∧ Only [r, p, bs, bw] w w' := by
  have hmf : ∀ (fn : Fn) (first cap : Array Value) (w : World), (Instr.makeFunc fn first cap).run Try.prog w = .ok (.func fn first cap) w := fun _ _ _ _ => rfl
  have hE := env_start hw hd
  have cR := ready_any hE.wal hE.dev
  have e3 : rdyE s age lost = 0 := by simp [rdyE, hr]
  rw [e3] at cR
  have cA : ∀ W, W.heap.size = w.heap.size + 1 + 1 → Env w W r p bs bw age lost s 0 → RdWr W v l → Calls Try.prog 53 #[.pointer (some ⟨r, 0, none⟩), v] W fun e w' => e = .returned (.tuple #[.map (some (w.heap.size + 1 + 1)), .int .i64 0]) ∧ w'.ownsMap Try.prog 3 secR (w.heap.size + 1 + 1) N (DF N (fOf l)) ∧ Below W.heap.size W w' := fun W hWs hW hvW =>
    (apart_any hW.wal hW.dev hvW hl ho hN).mono fun e w' ⟨h1, h2⟩ => by
      rcases h1 with ⟨h1, _⟩ | ⟨_, h1, h3⟩
      · exact absurd hb h1
      · rw [hWs] at h1 h3
        exact ⟨h1, h3, h2⟩
  have hWz : ∀ e', ((((w.alloc (.cells #[.pointer (some ⟨r, 0, none⟩)] 32)).alloc (.cells #[.int .i64 0] 24)).drewN e').setCell ⟨w.heap.size + 1, 0, none⟩ (.int .i64 0)).heap.size = w.heap.size + 1 + 1 := fun e' => by
    have e1 : ∀ (W : World) p v, (W.setCell p v).heap.size = W.heap.size := fun W p v => by simp [World.setCell]
    rw [e1]
    show ((w.alloc _).alloc _).heap.size = _
    simp
  have hvb : ∀ W, Below w.heap.size w W → RdWr W v l := fun W h => hv.below h rfl
  have hBA : ∀ e', Below w.heap.size w ((((w.alloc (.cells #[.pointer (some ⟨r, 0, none⟩)] 32)).alloc (.cells #[.int .i64 0] 24)).drewN e').setCell ⟨w.heap.size + 1, 0, none⟩ (.int .i64 0)) := fun e' =>
    ((((Only.alloc [w.heap.size + 1] w _).trans (Only.alloc _ _ _)).trans (Only.drewN _ _ _)).trans (Only.setCell _ (by simp) _)).below (Nat.le_refl _) (by simp)
  have hok : OkW N l := by
    unfold apartE at hb
    split at hb
    · assumption
    · omega
  have h24 : l.length ≤ 24 := by
    unfold apartE at hb
    rw [if_pos hok] at hb
    split at hb
    · omega
    · omega
  have hN8 : N ≤ 8192 := by have := hd.hi; omega
  have hsk : Maps.size (DF N (fOf l)) = l.length := by rw [size_keys, keys_len hok]
  have hkl : (keysF N (fOf l)).length ≤ 24 := by rw [keys_len hok]; exact h24
  have hfull := fOf_full hok
  have hnb : w.heap.size + 1 + 1 ∉ [p, bs, bw] := by
    have := hd.ltp; have := hd.lts; have := hd.ltw
    simp; omega
  have hap := hw.apart hd
  clear hw hd e3 hr hb hv hl ho hok
  by_cases hnil : l = []
  · have HD : Hid (commitD s N l = s.sync) := by show commitD s N l = s.sync; unfold commitD; rw [if_pos hnil]
    have hsk0 : Maps.size (DF N (fOf l)) = 0 := by rw [hsk, hnil]; rfl
    clear hsk
    have hsk := hsk0
    clear hsk0
    clear hnil h24 hkl hfull hN8
    have H1 : Hid ((commitD s N l).1 = s.sync.1) := by show (commitD s N l).1 = s.sync.1; rw [HD.out]
    have H2 : Hid ((commitD s N l).2 = s.sync.2) := by show (commitD s N l).2 = s.sync.2; rw [HD.out]
    clear HD
    have cS : ∀ W, IsDev W p bs bw s → _ := fun W hW => sync_all hW
    rw [H1.out, H2.out]
    generalize s.sync.1 = er at *
    generalize s.sync.2 = s' at *
    clear H1 H2
    go_enter_defers Try.func28, Try.ntmps28
    go_wp2_with (first
      | (go_at_call 43; refine cR.mono ?_; rintro e w2 ⟨rfl, j, hw2⟩; rw [hw2]; clear hw2 w2; have hE2 := (hE.drewN j).store 0; obtain ⟨c1, c2, c3⟩ := hE2.cells; have hv2 := hvb _ (hBA j))
      | (go_at_call 53; refine (cA _ (hWz j) hE2 hv2).mono ?_; rintro e w3 ⟨rfl, hM3, hb3⟩; have hE3 := hE2.below hb3; obtain ⟨d1, d2, d3⟩ := hE3.cells; have hE4 := hE3.store 0; obtain ⟨a1, a2, a3⟩ := hE4.cells; obtain ⟨x1, x2, x3⟩ := hE4.wal.cells; have hM4 := ownsMap_only hM3 (Only.setCell (S := [w.heap.size + 1]) w3 (p := ⟨w.heap.size + 1, 0, none⟩) (by simp) (.int .i64 0)) (by simp))
      | (at_len; refine wpList_len_own _ rfl _ 91 rfl 3 97 Try.underlying91 secR (w.heap.size + 1 + 1) N (DF N (fOf l)) rfl hM4 ?_; rw [hsk]; go_frame)
      | (go_at_call 14; refine (cS _ hE4.dev).mono ?_; rintro e w5 ⟨rfl, hd5, ho5⟩; have hE5 := hE4.moved hd5 ho5; obtain ⟨y1, y2, y3⟩ := hE5.cells; have hE6 := hE5.store er))
    refine leaves_cons (f := 52) (args := #[.pointer (some ⟨w.heap.size, 0, none⟩), .pointer (some ⟨w.heap.size + 1, 0, none⟩)]) (by simp) (by simp [go_sem]) ?_
    refine (commit_note hE6.wal hE6.cells.1 hE6.cells.2.1 .returning).mono ?_
    rintro e u' w'' ⟨rfl, rfl, hw', ho'⟩
    obtain ⟨f1, f2, f3, f4⟩ := hE6.out hw' ho'
    exact ⟨.int .i64 er, by rw [results_cell1 rfl]; simp [asAddr, go_sem, f4], rfl, f1, f2, f3⟩
  · have HD : Hid (commitD s N l = homeD (logD s (fOf l) N) (fOf l) N) := by show commitD s N l = _; unfold commitD; rw [if_neg hnil]
    have hpos : ((l.length : Int) == 0) = false := by
      have : l.length ≠ 0 := fun h => hnil (List.eq_nil_of_length_eq_zero h)
      simp
      omega
    clear hnil h24
    have H1 : Hid ((commitD s N l).1 = (homeD (logD s (fOf l) N) (fOf l) N).1) := by show (commitD s N l).1 = _; rw [HD.out]
    have H2 : Hid ((commitD s N l).2 = (homeD (logD s (fOf l) N) (fOf l) N).2) := by show (commitD s N l).2 = _; rw [HD.out]
    clear HD
    have cL : ∀ W b, IsWal W r p age lost → IsDev W p bs bw s → W.ownsMap Try.prog 3 secR b N (DF N (fOf l)) → b ∉ [p, bs, bw] → _ := fun W b h1 h2 h3 h4 => log_any h1 h2 h3 hfull hN8 h4 hkl
    have cB : ∀ W b, IsWal W r p age lost → IsDev W p bs bw (logD s (fOf l) N) → W.ownsMap Try.prog 3 secR b N (DF N (fOf l)) → b ∉ [p, bs, bw] → _ := fun W b h1 h2 h3 h4 => bringHome_any h1 h2 h3 hfull hN8 h4
    rw [H1.out, H2.out]
    generalize (homeD (logD s (fOf l) N) (fOf l) N).1 = er at *
    generalize (homeD (logD s (fOf l) N) (fOf l) N).2 = s' at *
    generalize logD s (fOf l) N = sl at *
    clear H1 H2 hfull hkl
    go_enter_defers Try.func28, Try.ntmps28
    go_wp2_with (first
      | (go_at_call 43; refine cR.mono ?_; rintro e w2 ⟨rfl, j, hw2⟩; rw [hw2]; clear hw2 w2; have hE2 := (hE.drewN j).store 0; obtain ⟨c1, c2, c3⟩ := hE2.cells; have hv2 := hvb _ (hBA j))
      | (go_at_call 53; refine (cA _ (hWz j) hE2 hv2).mono ?_; rintro e w3 ⟨rfl, hM3, hb3⟩; have hE3 := hE2.below hb3; obtain ⟨d1, d2, d3⟩ := hE3.cells; have hE4 := hE3.store 0; obtain ⟨a1, a2, a3⟩ := hE4.cells; obtain ⟨x1, x2, x3⟩ := hE4.wal.cells; have hM4 := ownsMap_only hM3 (Only.setCell (S := [w.heap.size + 1]) w3 (p := ⟨w.heap.size + 1, 0, none⟩) (by simp) (.int .i64 0)) (by simp))
      | (at_len; refine wpList_len_own _ rfl _ 91 rfl 3 97 Try.underlying91 secR (w.heap.size + 1 + 1) N (DF N (fOf l)) rfl hM4 ?_; rw [hsk]; go_frame)
      | (go_at_call 54; refine (cL _ _ hE4.wal hE4.dev hM4 hnb).mono ?_; rintro e w5 ⟨rfl, hd5, ho5⟩; have hE5 := hE4.moved hd5 ho5; obtain ⟨y1, y2, y3⟩ := hE5.cells; have hM5 := ownsMap_only hM4 ho5 hnb)
      | (go_at_call 55; refine (cB _ _ hE5.wal hE5.dev hM5 hnb).mono ?_; rintro e w6 ⟨rfl, hd6, ho6⟩; have hE6 := hE5.moved hd6 ho6; obtain ⟨z1, z2, z3⟩ := hE6.cells; have hE7 := hE6.store er))
    refine leaves_cons (f := 52) (args := #[.pointer (some ⟨w.heap.size, 0, none⟩), .pointer (some ⟨w.heap.size + 1, 0, none⟩)]) (by simp) (by simp [go_sem]) ?_
    refine (commit_note hE7.wal hE7.cells.1 hE7.cells.2.1 .returning).mono ?_
    rintro e u' w'' ⟨rfl, rfl, hw', ho'⟩
    obtain ⟨f1, f2, f3, f4⟩ := hE7.out hw' ho'
    exact ⟨.int .i64 er, by rw [results_cell1 rfl]; simp [asAddr, go_sem, f4], rfl, f1, f2, f3⟩
end Go.Proofs.Ytblhmfkohbdmeaa
