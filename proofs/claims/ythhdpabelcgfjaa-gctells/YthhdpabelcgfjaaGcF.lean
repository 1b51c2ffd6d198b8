/-
  gc: what is kept needs the same; the law's same, four and live.
-/
import Derived.Test.YthhdpabelcgfjaaGcE
namespace Go.Proofs.Ythhdpabelcgfjaa
open Go.Maps Go.ChangeShapes Go.WideShapes Go.ChangeAt Go.RowKit Go.PlainAid

/-! ### What is kept needs the same -/

theorem paL_kept (M : List Int) : ∀ (cs : List CoD) (n : Int), n ∈ M → paL (kept M cs) n = paL cs n
  | [], n, _ => rfl
  | x :: l, n, h => by
    have := paL_kept M l n h
    unfold kept at this ⊢
    by_cases hx : x.n ∈ M
    · rw [List.filter_cons_of_pos (by simpa using hx)]
      simp only [paL]
      rw [this]
    · rw [List.filter_cons_of_neg (by simpa using hx)]
      simp only [paL]
      rw [if_neg (show ¬ n = x.n from fun e => hx (e ▸ h)), this]
theorem kept_in {M : List Int} {cs : List CoD} {n : Int} (h : fdC (kept M cs) n = true) : n ∈ M ∧ fdC cs n = true := by
  have h1 := (fdC_mem _ _).1 h
  obtain ⟨x, hx, rfl⟩ := List.mem_map.1 h1
  unfold kept at hx
  rw [List.mem_filter] at hx
  exact ⟨by simpa using hx.2, (fdC_mem _ _).2 (List.mem_map_of_mem hx.1)⟩
theorem need_kept {cs : List CoD} {bs : List BrD} {M : List Int} (hM : IsNeed cs bs M) (n : Int) : NeedC (kept M cs) bs n ↔ NeedC cs bs n := by
  constructor
  · intro h
    induction h with
    | log hb hl hf => exact .log hb hl (kept_in hf).2
    | par hm hp hn hf ih => exact .par ih (by rw [← paL_kept M cs _ (kept_in hm.fd).1]; exact hp) hn (kept_in hf).2
  · intro h
    have hfd : ∀ k, NeedC cs bs k → fdC (kept M cs) k = true := fun k hk => by
      have h1 := (hM.iff k).2 hk
      have := paL_kept M cs k h1
      unfold fdC
      rw [this]
      exact hk.fd
    induction h with
    | log hb hl hf => exact .log hb hl (hfd _ (.log hb hl hf))
    | par hm hp hn hf ih => exact .par ih (by rw [paL_kept M cs _ ((hM.iff _).2 hm)]; exact hp) hn (hfd _ (.par hm hp hn hf))
theorem kept_again {cs : List CoD} {bs : List BrD} {M K : List Int} (hM : IsNeed cs bs M) (hK : IsNeed (kept M cs) bs K) : kept K (kept M cs) = kept M cs := by
  unfold kept
  rw [List.filter_eq_self]
  intro x hx
  rw [List.mem_filter] at hx
  have h1 : x.n ∈ M := by simpa using hx.2
  have := (hK.iff x.n).2 ((need_kept hM x.n).2 ((hM.iff x.n).1 h1))
  simpa using this
theorem srt_kept {cs : List CoD} {bs : List BrD} {M L K : List Int} (hM : IsNeed cs bs M) (hL : SrtNeed (kept M cs) bs L) (hK : SrtNeed cs bs K) : L = K :=
  srt_eq hL.1 hK.1 (fun n => (hL.2 n).trans ((need_kept hM n).trans (hK.2 n).symm))
theorem StU.kept {up : Bool} {S : StD} (h : StU up S) (M : List Int) : StU up ⟨S.nc, S.nb, Go.Proofs.Ythhdpabelcgfjaa.kept M S.cs, S.bs, S.us⟩ := by
  have hl : (Go.Proofs.Ythhdpabelcgfjaa.kept M S.cs).length ≤ S.cs.length := List.length_filter_le _ _
  have hm : ∀ x ∈ Go.Proofs.Ythhdpabelcgfjaa.kept M S.cs, x ∈ S.cs := fun x hx => (List.mem_filter.1 hx).1
  have hf := h.fit
  exact ⟨⟨hf.c0, hf.c1, hf.b0, hf.b1, fun x hx => hf.cs x (hm x hx), hf.bs⟩, ⟨by have := h.cl.1; simp only; omega, fun e => by have := h.cl.2 e; simp only; omega⟩, h.bl, h.ul, fun x hx => h.co x (hm x hx), h.br⟩

/-! ### same -/

set_option maxRecDepth 20000 in
set_option maxHeartbeats 1000000 in
theorem same21_true (va vb : Value) (A : List Int) (w : World) (hA : RdI w va A) (hB : RdI w vb A) (hm : A.length ≤ 9223372036854775000) :
    Calls Try.prog 11 #[va, vb] w fun e w' => e = .returned (.bool true) ∧ Below w.heap.size w w' := by
  obtain ⟨ao, ac, rfl, hac⟩ := hA
  obtain ⟨bo, bc, rfl, hbc⟩ := hB
  go_enter Try.func11, Try.ntmps11
  go_wp2_with fail
  go_loopw [5] (fun i wr => ∃ k : Nat, k ≤ A.length ∧ i = .int .i64 (k : Int) ∧ Below w.heap.size w wr) (fun i _ => A.length - (Go.RowKit.intOf i).toNat)
  case atStart => exact ⟨0, by omega, rfl, Below.refl _ _⟩
  case round =>
    obtain ⟨k, hk, rfl, hbl⟩ := hrel
    by_cases hlt : k < A.length
    · have hlt' : (k : Int) < (A.length : Int) := by omega
      obtain ⟨b1, o1, rfl, hb1, c0⟩ := hac k A[k] (by simp [hlt])
      obtain ⟨b2, o2, rfl, hb2, d0⟩ := hbc k A[k] (by simp [hlt])
      rw [← hbl.cell (p := ⟨b1, _, none⟩) hb1] at c0
      rw [← hbl.cell (p := ⟨b2, _, none⟩) hb2] at d0
      clear hac hbc
      generalize A[k] = y at *
      go_wp2_with fail
      go_region
      go_wp2_with fail
      exact ⟨⟨k + 1, by omega, by go_num, Below.drew hbl⟩, by simp [Go.RowKit.intOf]; omega⟩
    · have hlt' : ¬ (k : Int) < (A.length : Int) := by omega
      clear hac hbc
      go_wp2_with fail
      go_ret
      exact ⟨rfl, hbl⟩

/-! ### Many blocks, one behind the other -/

def allocs (w : World) (os : List Obj) : World := os.foldl World.alloc w
theorem allocs_below : ∀ (os : List Obj) (w : World), Below w.heap.size w (allocs w os)
  | [], w => Below.refl _ _
  | o :: os, w => by
    have h1 := alloc_bR w o
    have h2 := allocs_below os (w.alloc o)
    exact h1.trans (h2.mono h1.size)
theorem allocs_size : ∀ (os : List Obj) (w : World), (allocs w os).heap.size = w.heap.size + os.length
  | [], w => rfl
  | o :: os, w => by
    have := allocs_size os (w.alloc o)
    show (allocs (w.alloc o) os).heap.size = _
    rw [this, World.size_alloc]
    simp only [List.length_cons]
    omega
theorem allocs_at : ∀ (os : List Obj) (w : World) (i : Nat) (o : Obj), os[i]? = some o → (allocs w os).heap[w.heap.size + i]? = some o
  | [], _, _, _, h => by simp at h
  | x :: os, w, 0, o, h => by
    simp at h
    subst h
    have h1 := heap_alloc_new w x
    exact ((allocs_below os (w.alloc x)).block _ (by rw [World.size_alloc]; omega)).trans h1
  | x :: os, w, i + 1, o, h => by
    have := allocs_at os (w.alloc x) i o (by simpa using h)
    rw [World.size_alloc] at this
    rw [show w.heap.size + (i + 1) = w.heap.size + 1 + i by omega]
    exact this

/-! ### four -/

def fC1 : CoD := ⟨1, [], [], [], 0, 0⟩
def fC2 : CoD := ⟨2, [1], [], [], 0, 0⟩
def fC3 : CoD := ⟨3, [1], [], [], 0, 0⟩
def fC4 : CoD := ⟨4, [2, 3], [], [], 0, 0⟩
def fBr : BrD := ⟨1, ⟨#[97]⟩, [3]⟩
def fS : StD := ⟨5, 2, [fC1, fC2, fC3, fC4], [fBr], []⟩
theorem fU : StU false fS := by
  have hi : ∀ n : Int, 0 ≤ n → n ≤ 10 → InI n := fun n h1 h2 => ⟨by omega, by omega⟩
  have hd : Dl false [] := ⟨by decide, by simp, fun h => by cases h⟩
  refine ⟨⟨by decide, by decide, by decide, by decide, fun x hx => ?_, fun x hx => ?_⟩, ⟨by decide, fun h => by cases h⟩, ⟨by decide, fun h => by cases h⟩, ⟨by decide, fun h => by cases h⟩, fun x hx => ?_, fun x hx => ?_⟩
  · simp only [fS, List.mem_cons, List.not_mem_nil, or_false] at hx
    rcases hx with rfl | rfl | rfl | rfl <;> exact ⟨by decide, by decide, by simp [fC1, fC2, fC3, fC4], by decide, by simp [fC1, fC2, fC3, fC4]⟩
  · simp only [fS, List.mem_cons, List.not_mem_nil, or_false] at hx
    subst hx
    exact ⟨by decide, by decide⟩
  · simp only [fS, List.mem_cons, List.not_mem_nil, or_false] at hx
    rcases hx with rfl | rfl | rfl | rfl <;> exact ⟨⟨by decide, by decide, by simp [fC1, fC2, fC3, fC4], by decide, by simp [fC1, fC2, fC3, fC4]⟩, hd, hd, ⟨by decide, fun h => by cases h⟩, hi _ (by decide) (by decide), by simp [fC1, fC2, fC3, fC4, InI]⟩
  · simp only [fS, List.mem_cons, List.not_mem_nil, or_false] at hx
    subst hx
    exact ⟨⟨by decide, by decide⟩, ⟨by decide, fun h => by cases h⟩, (fun h => by cases h), by simp [fBr, InI]⟩
theorem fNeed (n : Int) : n ∈ [(1 : Int), 3] ↔ NeedC fS.cs fS.bs n := by
  have h3 : NeedC fS.cs fS.bs 3 := .log (b := fBr) (by simp [fS]) (by simp [fBr]) rfl
  constructor
  · intro h
    simp only [List.mem_cons, List.not_mem_nil, or_false] at h
    rcases h with rfl | rfl
    · exact .par (m := 3) (ps := [1]) h3 rfl (by simp) rfl
    · exact h3
  · intro h
    induction h with
    | log hb hl hf =>
      simp only [fS, List.mem_cons, List.not_mem_nil, or_false] at hb
      subst hb
      simp only [fBr, List.mem_cons, List.not_mem_nil, or_false] at hl
      simp [hl]
    | par hm hp hn hf ih =>
      simp only [List.mem_cons, List.not_mem_nil, or_false] at ih
      rcases ih with rfl | rfl
      · have e : paL fS.cs 1 = some [] := rfl
        rw [e] at hp
        cases hp
        cases hn
      · have e : paL fS.cs 3 = some [1] := rfl
        rw [e] at hp
        cases hp
        simp only [List.mem_cons, List.not_mem_nil, or_false] at hn
        simp [hn]
theorem fSrt : SrtNeed fS.cs fS.bs [1, 3] := ⟨by decide, fNeed⟩
theorem fKept {M : List Int} (h : IsNeed fS.cs fS.bs M) : kept M fS.cs = [fC1, fC3] := by
  have hm : ∀ n, n ∈ M ↔ n ∈ [(1 : Int), 3] := fun n => (h.iff n).trans (fNeed n).symm
  have e1 : decide (fC1.n ∈ M) = true := decide_eq_true ((hm _).2 (by decide))
  have e2 : decide (fC2.n ∈ M) = false := decide_eq_false (fun e => absurd ((hm _).1 e) (by decide))
  have e3 : decide (fC3.n ∈ M) = true := decide_eq_true ((hm _).2 (by decide))
  have e4 : decide (fC4.n ∈ M) = false := decide_eq_false (fun e => absurd ((hm _).1 e) (by decide))
  simp [kept, fS, List.filter, e1, e2, e3, e4]
def fObjs (n : Nat) (S : Obj) : List Obj :=
  [S,
   .cells #[.int .i64 1] 3, .cells #[.int .i64 1] 3, .cells #[.int .i64 2, .int .i64 3] 3,
   .cells #[.int .i64 1, .slice none 0 0, .slice none 0 0, .slice none 0 0, .int .i64 0, .int .i64 0, .int .i64 2, .slice (some ⟨n + 1, 0, none⟩) 1 1, .slice none 0 0, .slice none 0 0, .int .i64 0, .int .i64 0, .int .i64 3, .slice (some ⟨n + 1 + 1, 0, none⟩) 1 1, .slice none 0 0, .slice none 0 0, .int .i64 0, .int .i64 0, .int .i64 4, .slice (some ⟨n + 1 + 1 + 1, 0, none⟩) 2 2, .slice none 0 0, .slice none 0 0, .int .i64 0, .int .i64 0] 40,
   .cells #[.int .i64 3] 3, .cells #[.int .i64 1, .string ⟨#[97]⟩, .slice (some ⟨n + 1 + 1 + 1 + 1 + 1, 0, none⟩) 1 1] 47]
theorem rdi_litG {W : World} {b : Nat} {l : List Int} (h : W.heap[b]? = some (.cells (ivs l).toArray 3)) : RdI W (.slice (some ⟨b, 0, none⟩) l.length l.length) l := by
  refine ⟨_, _, rfl, fun i n hi => ⟨b, 0, rfl, heap_lt h, ?_⟩⟩
  rw [Nat.zero_add]
  have hc := cell_of_row W b i _ _ (0, 0) h
  rw [hc]
  simp [ivs, hi]
theorem four_rd (w W : World) (S : Obj) (h : ∀ i o, (fObjs w.heap.size S)[i]? = some o → W.heap[w.heap.size + i]? = some o) : RdSt W (.slice (some ⟨w.heap.size + 1 + 1 + 1 + 1, 0, none⟩) 4 4) (.slice (some ⟨w.heap.size + 1 + 1 + 1 + 1 + 1 + 1, 0, none⟩) 1 1) (.slice none 0 0) fS := by
  have h1 := h 1 _ rfl
  have h2 := h 2 _ rfl
  have h3 := h 3 _ rfl
  have h4 := h 4 _ rfl
  have h5 := h 5 _ rfl
  have h6 := h 6 _ rfl
  have r1 : RdI W (.slice (some ⟨w.heap.size + 1, 0, none⟩) 1 1) [1] := rdi_litG (l := [1]) h1
  have r2 : RdI W (.slice (some ⟨w.heap.size + 1 + 1, 0, none⟩) 1 1) [1] := rdi_litG (l := [1]) h2
  have r3 : RdI W (.slice (some ⟨w.heap.size + 1 + 1 + 1, 0, none⟩) 2 2) [2, 3] := rdi_litG (l := [2, 3]) h3
  have r5 : RdI W (.slice (some ⟨w.heap.size + 1 + 1 + 1 + 1 + 1, 0, none⟩) 1 1) [3] := rdi_litG (l := [3]) h5
  refine ⟨⟨_, _, rfl, fun i x hi => ?_⟩, ⟨_, _, rfl, fun i x hi => ?_⟩, RdCu.nil W⟩
  · have q := fun j => cell_of_row W (w.heap.size + 4) j _ _ (0, 0) h4
    match i, hi with
    | 0, hi =>
      simp [fS] at hi
      subst hi
      exact ⟨w.heap.size + 4, 0, _, _, _, rfl, heap_lt h4, ⟨q 0, q 1, q 2, q 3, q 4, q 5⟩, RdI.nil W, RdD.nil W, RdD.nil W⟩
    | 1, hi =>
      simp [fS] at hi
      subst hi
      exact ⟨w.heap.size + 4, 0, _, _, _, rfl, heap_lt h4, ⟨q 6, q 7, q 8, q 9, q 10, q 11⟩, r1, RdD.nil W, RdD.nil W⟩
    | 2, hi =>
      simp [fS] at hi
      subst hi
      exact ⟨w.heap.size + 4, 0, _, _, _, rfl, heap_lt h4, ⟨q 12, q 13, q 14, q 15, q 16, q 17⟩, r2, RdD.nil W, RdD.nil W⟩
    | 3, hi =>
      simp [fS] at hi
      subst hi
      exact ⟨w.heap.size + 4, 0, _, _, _, rfl, heap_lt h4, ⟨q 18, q 19, q 20, q 21, q 22, q 23⟩, r3, RdD.nil W, RdD.nil W⟩
    | i + 4, hi => simp [fS] at hi
  · have q := fun j => cell_of_row W (w.heap.size + 6) j _ _ (0, 0) h6
    match i, hi with
    | 0, hi =>
      simp [fS] at hi
      subst hi
      exact ⟨w.heap.size + 6, 0, _, rfl, heap_lt h6, ⟨q 0, q 1, q 2⟩, r5⟩
    | i + 1, hi => simp [fS] at hi
set_option maxRecDepth 20000 in
set_option maxHeartbeats 2000000 in
theorem four_any (w : World) : Calls Try.prog 25 #[] w fun e w' => ∃ v1 v2 v3, e = .returned (.agg (fS.fs v1 v2 v3)) ∧ RdSt w' v1 v2 v3 fS ∧ Below w.heap.size w w' := by
  have hz : SB (allocs w (fObjs w.heap.size (.cells #[.int .i64 0, .int .i64 0, .slice none 0 0, .slice none 0 0, .slice none 0 0] 26))) w.heap.size zeroS (.slice none 0 0) (.slice none 0 0) (.slice none 0 0) := allocs_at (fObjs w.heap.size _) w 0 _ rfl
  obtain ⟨x0, x1, x2, x3, x4⟩ := cellsSB hz
  obtain ⟨f0, f1, f2, f3, f4⟩ := frzS hz
  simp only [allocs, fObjs, List.foldl] at x0 x1 x2 x3 x4 f0 f1 f2 f3 f4
  clear hz
  go_enter Try.func25, Try.ntmps25
  go_wp21
  clear x0 x1 x2 x3 x4 f0 f1 f2 f3 f4
  change bodyPost _ _ _ _ _ (allocs w (fObjs w.heap.size (.cells (fS.fs (.slice (some ⟨w.heap.size + 1 + 1 + 1 + 1, 0, none⟩) 4 4) (.slice (some ⟨w.heap.size + 1 + 1 + 1 + 1 + 1 + 1, 0, none⟩) 1 1) (.slice none 0 0)) 26)))
  have hat := allocs_at (fObjs w.heap.size (.cells (fS.fs (.slice (some ⟨w.heap.size + 1 + 1 + 1 + 1, 0, none⟩) 4 4) (.slice (some ⟨w.heap.size + 1 + 1 + 1 + 1 + 1 + 1, 0, none⟩) 1 1) (.slice none 0 0)) 26)) w
  have hb := allocs_below (fObjs w.heap.size (.cells (fS.fs (.slice (some ⟨w.heap.size + 1 + 1 + 1 + 1, 0, none⟩) 4 4) (.slice (some ⟨w.heap.size + 1 + 1 + 1 + 1 + 1 + 1, 0, none⟩) 1 1) (.slice none 0 0)) 26)) w
  have hr := four_rd w _ _ hat
  have hfin := hat 0 _ rfl
  generalize allocs w (fObjs w.heap.size (.cells (fS.fs (.slice (some ⟨w.heap.size + 1 + 1 + 1 + 1, 0, none⟩) 4 4) (.slice (some ⟨w.heap.size + 1 + 1 + 1 + 1 + 1 + 1, 0, none⟩) 1 1) (.slice none 0 0)) 26)) = W at *
  refine bodyPost_ret (results_cell_row rfl _ _ w.heap.size 26 _ (0, 0) _ rfl hfin Try.underlying26 rfl Try.sizeSt) rfl ?_
  exact ⟨_, _, _, rfl, hr, hb⟩
theorem sweep_four (v1 v2 v3 : Value) (w : World) (hr : RdSt w v1 v2 v3 fS) : Calls Try.prog 8 #[.agg (fS.fs v1 v2 v3)] w fun e w' => ∃ a1 k1 a2 k2 a3 k3, e = .returned (.tuple #[.agg #[.int .i64 5, .int .i64 2, .slice a1 2 k1, .slice a2 1 k2, .slice a3 0 k3], .int .i64 2]) ∧ Below w.heap.size w w' := by
  refine (sweep_any fS v1 v2 v3 w hr fU).mono ?_
  rintro e w' ⟨u1, u2, u3, M, rfl, hN, ⟨us, ls, ho⟩, hb⟩
  obtain ⟨a1, k1, rfl⟩ := own_form ho.c.row
  obtain ⟨a2, k2, rfl⟩ := own_form ho.b.row
  obtain ⟨a3, k3, rfl⟩ := own_form ho.u
  rw [fKept hN]
  exact ⟨a1, k1, a2, k2, a3, k3, rfl, hb⟩
theorem needed_four (v1 v2 v3 : Value) (w : World) (hr : RdSt w v1 v2 v3 fS) : Calls Try.prog 7 #[.agg (fS.fs v1 v2 v3)] w fun e w' => ∃ a k, e = .returned (.slice a 2 k) ∧ RdI w' (.slice a 2 k) [1, 3] ∧ Below w.heap.size w w' := by
  refine (needed_any fS v1 v2 v3 w hr fU).mono ?_
  rintro e w' ⟨u, L, rfl, ho, hL, hb⟩
  obtain rfl := srtneed_eq hL fSrt
  obtain ⟨a, k, rfl⟩ := own_form ho
  exact ⟨a, k, rfl, rdi_own ho, hb⟩
set_option maxRecDepth 20000 in
set_option maxHeartbeats 2000000 in
theorem live21_any (w : World) : Calls Try.prog 10 #[] w fun e w' => e = .returned (.bool true) ∧ Below w.heap.size w w' := by
  have c4 := four_any
  have cS := sweep_four
  have cN := needed_four
  simp only [StD.fs] at c4 cS cN
  go_enter Try.func10, Try.ntmps10
  go_wp2_with fail
  refine (c4 w).mono ?_
  rintro e w1 ⟨v1, v2, v3, rfl, hr1, hb1⟩
  go_wp2_with fail
  refine (cS v1 v2 v3 w1 hr1).mono ?_
  rintro e w2 ⟨a1, k1, a2, k2, a3, k3, rfl, hb2⟩
  have hb02 := hb1.trans (hb2.mono hb1.size)
  have hal := alloc_bR w2 (.cells #[.int .i64 5, .int .i64 2, .slice a1 2 k1, .slice a2 1 k2, .slice a3 0 k3] 26)
  have hnw := heap_alloc_new w2 (.cells #[.int .i64 5, .int .i64 2, .slice a1 2 k1, .slice a2 1 k2, .slice a3 0 k3] 26)
  have hb03 := hb02.trans (hal.mono hb02.size)
  clear hr1 hb1 hb2 hal
  go_upto_region 2 with fail
  generalize hQ : w2.heap.size = Q at *
  generalize w2.alloc (.cells #[.int .i64 5, .int .i64 2, .slice a1 2 k1, .slice a2 1 k2, .slice a3 0 k3] 26) = w3 at *
  go_wp2_with fail
  refine (c4 w3).mono ?_
  rintro e w4 ⟨v4, v5, v6, rfl, hr4, hb4⟩
  go_wp2_with fail
  refine (cN v4 v5 v6 w4 hr4).mono ?_
  rintro e w5 ⟨a, k, rfl, hrL, hb5⟩
  have hb35 := hb4.trans (hb5.mono hb4.size)
  have hnw5 := (hb35.block _ (heap_lt hnw)).trans hnw
  have hb05 := hb03.trans (hb35.mono hb03.size)
  have hal := alloc_bR w5 (.cells #[.int .i64 1, .int .i64 3] 3)
  have hn5 := heap_alloc_new w5 (.cells #[.int .i64 1, .int .i64 3] 3)
  have hb06 := hb05.trans (hal.mono hb05.size)
  have hnw6 := (hal.block _ (heap_lt hnw5)).trans hnw5
  have cT := same21_true (.slice a 2 k) (.slice (some ⟨w5.heap.size, 0, none⟩) 2 2) [1, 3] _ (hrL.below hal) (rdi_litG (l := [1, 3]) hn5) (by decide)
  clear hr4 hb4 hb5 hb35 hnw hb03 hnw5 hb05 hrL hal hn5 c4 cS cN hb02
  go_wp2_with fail
  refine cT.mono ?_
  rintro e w7 ⟨rfl, hb7⟩
  have hnw7 := (hb7.block _ (heap_lt hnw6)).trans hnw6
  have hb07 := hb06.trans (hb7.mono hb06.size)
  have q := fun j => cell_of_row w7 Q j _ _ (0, 0) hnw7
  have y0 : w7.cell? ⟨Q, 0, none⟩ = some (.int .i64 5) := q 0
  have y2 : w7.cell? ⟨Q, 2, none⟩ = some (.slice a1 2 k1) := q 2
  have y3 : w7.cell? ⟨Q, 3, none⟩ = some (.slice a2 1 k2) := q 3
  clear q cT hnw6 hb06
  go_wp2_with fail
  go_ret
  exact ⟨rfl, hb07⟩
end Go.Proofs.Ythhdpabelcgfjaa
