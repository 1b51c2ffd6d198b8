/-
  gc and dag: what is needed is what stands above a log; the law's has; rows of links and of marks.
-/
import Derived.Test.YthhdpabelcgfjaaGcF
import Derived.Test.YthhdpabelcgfjaaEgT
namespace Go.Proofs.Ythhdpabelcgfjaa
open Go.Maps Go.ChangeShapes Go.WideShapes Go.ChangeAt Go.RowKit Go.PlainAid

/-- The commits as links. -/
def lks (cs : List CoD) : List dg.Lk := cs.map fun x => ⟨x.n, x.ps⟩
theorem lks_nums (cs : List CoD) : dg.nums (lks cs) = cs.map CoD.n := by simp [dg.nums, lks]
theorem asc_nums {L : List dg.Lk} (h : dg.Good L) : (dg.nums L).Pairwise (· < ·) := dg.nums_asc h
theorem paL_of {cs : List CoD} (hA : (cs.map CoD.n).Pairwise (· < ·)) : ∀ {x : CoD}, x ∈ cs → paL cs x.n = some x.ps := by
  induction cs with
  | nil => intro x h; cases h
  | cons y l ih =>
    intro x hx
    rw [List.map_cons, List.pairwise_cons] at hA
    rcases List.mem_cons.1 hx with rfl | hx
    · simp [paL]
    · have := hA.1 x.n (List.mem_map_of_mem hx)
      simp only [paL]
      rw [if_neg (by omega)]
      exact ih hA.2 hx
/-- The logs' numbers. -/
def logsOf (bs : List BrD) : List Int := bs.flatMap BrD.lg
theorem need_up {cs : List CoD} {bs : List BrD} (hg : dg.Good (lks cs)) (m : Int) : NeedC cs bs m ↔ ∃ n ∈ logsOf bs, n ∈ cs.map CoD.n ∧ dg.Up (lks cs) n m := by
  have hA := asc_nums hg
  rw [lks_nums] at hA
  constructor
  · intro h
    induction h with
    | log hb hl hf => exact ⟨_, List.mem_flatMap.2 ⟨_, hb, hl⟩, (fdC_mem _ _).1 hf, .refl _⟩
    | par _ hp hn hf ih =>
      obtain ⟨n, h1, h2, h3⟩ := ih
      obtain ⟨x, hx, e1, e2⟩ := paL_mem _ _ _ hp
      exact ⟨n, h1, h2, .step h3 ⟨⟨x.n, x.ps⟩, List.mem_map.2 ⟨x, hx, rfl⟩, e1, by rw [e2]; exact hn⟩⟩
  · rintro ⟨n, h1, h2, h3⟩
    obtain ⟨b, hb, hl⟩ := List.mem_flatMap.1 h1
    have h0 : NeedC cs bs n := .log hb hl ((fdC_mem _ _).2 h2)
    clear h1 hb hl
    induction h3 with
    | refl => exact h0
    | step hu hp ih =>
      obtain ⟨k, hk, rfl, hps⟩ := hp
      have hm := dg.good_mem hg k hk _ hps
      rw [lks_nums] at hm
      obtain ⟨x, hx, rfl⟩ := List.mem_map.1 hk
      exact .par ih (paL_of hA hx) hps ((fdC_mem _ _).2 hm)
/-- The needed ones, counted. -/
theorem need_count {cs : List CoD} {bs : List BrD} {L : List Int} (hg : dg.Good (lks cs)) (hL : SrtNeed cs bs L) : (cs.map CoD.n).filter (fun n => decide (n ∈ L)) = L := by
  have hA := asc_nums hg
  rw [lks_nums] at hA
  refine srt_eq (hA.filter _) hL.1 (fun n => ?_)
  rw [List.mem_filter]
  simp only [decide_eq_true_eq]
  exact ⟨fun h => h.2, fun h => ⟨(fdC_mem _ _).1 ((hL.2 n).1 h).fd, h⟩⟩

/-! ### has -/

set_option maxRecDepth 20000 in
set_option maxHeartbeats 1000000 in
theorem has21_any (va : Value) (A : List Int) (n : Int) (w : World) (hA : RdI w va A) (hm : A.length ≤ 9223372036854775000) :
    Calls Try.prog 17 #[va, .int .i64 n] w fun e w' => e = .returned (.bool (decide (n ∈ A))) ∧ Below w.heap.size w w' := by
  obtain ⟨ao, ac, rfl, hac⟩ := hA
  obtain ⟨res, Hres⟩ : ∃ res, Hid (decide (n ∈ A) = res) := ⟨_, rfl⟩
  rw [Hres.out]
  go_enter Try.func17, Try.ntmps17
  go_wp2_with fail
  go_loopw [5] (fun i wr => ∃ k : Nat, k ≤ A.length ∧ i = .int .i64 (k : Int) ∧ Hid (n ∉ A.take k) ∧ Below w.heap.size w wr) (fun i _ => A.length - (Go.RowKit.intOf i).toNat)
  case atStart => exact ⟨0, by omega, rfl, by show n ∉ A.take 0; simp, Below.refl _ _⟩
  case round =>
    obtain ⟨k, hk, rfl, HT, hbl⟩ := hrel
    by_cases hlt : k < A.length
    · have hlt' : (k : Int) < (A.length : Int) := by omega
      obtain ⟨b1, o1, rfl, hb1, c0⟩ := hac k A[k] (by simp [hlt])
      rw [← hbl.cell (p := ⟨b1, _, none⟩) hb1] at c0
      clear hac
      by_cases he : A[k] = n
      · have HR : Hid (res = true) := by
          show _ = _
          rw [← Hres.out]
          exact decide_eq_true (he ▸ List.getElem_mem hlt)
        rw [he] at c0
        clear he HT
        go_wp2_with fail
        go_ret
        exact ⟨by rw [HR.out]; rfl, hbl⟩
      · have HN : Hid (n ∉ A.take (k + 1)) := by
          show n ∉ _
          rw [List.take_succ_eq_append_getElem hlt]
          intro h
          rcases List.mem_append.1 h with h | h
          · exact HT.out h
          · simp at h; exact he h.symm
        have hne : (A[k] == n) = false := beq_eq_false_iff_ne.2 he
        clear he HT
        generalize A[k] = y at *
        go_wp2_with fail
        exact ⟨⟨k + 1, by omega, by go_num, HN, hbl⟩, by simp [Go.RowKit.intOf]; omega⟩
    · have hlt' : ¬ (k : Int) < (A.length : Int) := by omega
      have HR : Hid (res = false) := by
        show _ = _
        rw [← Hres.out]
        refine decide_eq_false ?_
        have := HT.out
        rwa [List.take_of_length_le (by omega)] at this
      clear hac HT
      go_wp2_with fail
      go_ret
      exact ⟨by rw [HR.out]; rfl, hbl⟩

/-! ### Links in a row of the call's own -/

def lcsL : List CoD → List (Value × Value × Value) → List Value
  | x :: l, u :: us => .int .i64 x.n :: u.1 :: lcsL l us
  | _, _ => []
theorem lcsL_snoc : ∀ (l : List CoD) (us : List (Value × Value × Value)) (x : CoD) (u : Value × Value × Value), us.length = l.length → lcsL (l ++ [x]) (us ++ [u]) = lcsL l us ++ [.int .i64 x.n, u.1]
  | [], us, x, u, h => by
    have : us = [] := List.eq_nil_of_length_eq_zero h
    subst this
    rfl
  | y :: l, [], _, _, h => by simp at h
  | y :: l, v :: us, x, u, h => by
    have := lcsL_snoc l us x u (by simpa using h)
    simp [lcsL, this]
theorem lcsL_at : ∀ (l : List CoD) (us : List (Value × Value × Value)) (i : Nat) (x : CoD) (u : Value × Value × Value), l[i]? = some x → us[i]? = some u → (lcsL l us)[i * 2]? = some (.int .i64 x.n) ∧ (lcsL l us)[i * 2 + 1]? = some u.1
  | [], _, _, _, _, h, _ => by simp at h
  | _ :: _, [], _, _, _, _, h => by simp at h
  | y :: l, v :: us, 0, x, u, h, hu => by simp at h hu; subst h; subst hu; exact ⟨rfl, rfl⟩
  | y :: l, v :: us, i + 1, x, u, h, hu => by
    have := lcsL_at l us i x u (by simpa using h) (by simpa using hu)
    rw [show (i + 1) * 2 = i * 2 + 1 + 1 by omega]
    simpa [lcsL] using this
theorem own_len {W : World} {B z n : Nat} {ao : Option Addr} {m cp : Nat} {e : TypeId} {xs : List Value} (h : W.ownsRow B e z (.slice ao m cp) n xs) : m = n ∧ n ≤ cp ∧ (ao = none → cp = 0) := by
  rcases h.2 with ⟨e0, h0⟩ | ⟨g', cap, cur, e0, hB, hg, h1, -⟩
  · simp only [Value.slice.injEq] at e0
    obtain ⟨rfl, rfl, rfl⟩ := e0
    exact ⟨h0.symm, by omega, fun _ => rfl⟩
  · simp only [Value.slice.injEq] at e0
    obtain ⟨rfl, rfl, rfl⟩ := e0
    exact ⟨rfl, h1, fun h => by cases h⟩
theorem rdl_own {w W : World} {B : Nat} {v : Value} {ao : Option Addr} {cs : List CoD} {us : List (Value × Value × Value)} (hA : AtCo w ao cs us) (hb : Below w.heap.size w W) (h : W.ownsRow B 42 2 v cs.length (lcsL cs us)) : dg.RdL W v (lks cs) := by
  obtain ⟨a, k, rfl⟩ := own_form h
  obtain ⟨-, h1, h2⟩ := own_len h
  refine ⟨a, k, by simp [lks], ⟨by simpa [lks] using h1, h2⟩, fun i x hi => ?_⟩
  unfold lks at hi
  rw [List.getElem?_map] at hi
  cases hc : cs[i]? with
  | none => rw [hc] at hi; cases hi
  | some c =>
    rw [hc] at hi
    simp at hi
    subst hi
    obtain ⟨hlt, -⟩ := List.getElem?_eq_some_iff.1 hc
    obtain ⟨u, hu⟩ : ∃ u, us[i]? = some u := ⟨us[i]'(by rw [hA.ul]; exact hlt), by simp⟩
    obtain ⟨g, rfl, hgB, hgl, -⟩ := own_block h (by omega)
    obtain ⟨q0, q1⟩ := lcsL_at cs us i c u hc hu
    have q := h.cells (g := g) rfl
    have hadd : ∀ j, (⟨g, 0, none⟩ : Addr).add j = ⟨g, j, none⟩ := fun j => by rw [adK, Nat.zero_add]
    simp only [hadd] at q
    obtain ⟨_, _, _, _, _, r1, -⟩ := hA.at_ i c u hc hu
    refine ⟨g, 0, u.1, rfl, hgl, ?_, ?_, r1.below hb⟩
    · rw [Nat.zero_add]; exact q _ _ q0
    · rw [Nat.zero_add]; exact q _ _ q1

/-! ### Marks, a row of bools -/

def bvs (l : List Bool) : List Value := l.map .bool
/-- The marks of the logs in P; from place k on those of Q. -/
def WMark (cs : List CoD) (P Q : List Int) (k : Nat) (l : List Bool) : Prop := l.length = cs.length ∧ ∀ (j : Nat) (t : Bool) (x : CoD), l[j]? = some t → cs[j]? = some x → (t = true ↔ ∃ n ∈ (if j < k then P else Q), n ∈ cs.map CoD.n ∧ dg.Up (lks cs) n x.n)
theorem WMark.start (cs : List CoD) : WMark cs [] [] 0 (List.replicate cs.length false) := by
  refine ⟨by simp, fun j t x ht hx => ?_⟩
  rw [List.getElem?_replicate] at ht
  split at ht
  · cases ht
    simp
  · cases ht
theorem WMark.next {cs : List CoD} {P : List Int} {k : Nat} {l : List Bool} (h : WMark cs P P k l) (Q : List Int) : WMark cs Q P 0 l := by
  refine ⟨h.1, fun j t x ht hx => ?_⟩
  have := h.2 j t x ht hx
  simp only [ite_self] at this
  simpa using this
theorem WMark.done {cs : List CoD} {P Q : List Int} {k : Nat} {l : List Bool} (h : WMark cs P Q k l) (hk : cs.length ≤ k) : WMark cs P P 0 l := by
  refine ⟨h.1, fun j t x ht hx => ?_⟩
  have := h.2 j t x ht hx
  have hj := (List.getElem?_eq_some_iff.1 hx).1
  rw [if_pos (by omega)] at this
  simpa using this
/-- A number that no commit has marks nothing. -/
theorem WMark.none {cs : List CoD} {P : List Int} {n : Int} {l : List Bool} (h : WMark cs P P 0 l) (hn : n ∉ cs.map CoD.n) : WMark cs (P ++ [n]) (P ++ [n]) 0 l := by
  refine ⟨h.1, fun j t x ht hx => ?_⟩
  have := h.2 j t x ht hx
  simp only [ite_self] at this ⊢
  rw [this]
  constructor
  · rintro ⟨m, h1, h2⟩
    exact ⟨m, List.mem_append_left _ h1, h2⟩
  · rintro ⟨m, h1, h2⟩
    rcases List.mem_append.1 h1 with h1 | h1
    · exact ⟨m, h1, h2⟩
    · simp at h1
      subst h1
      exact absurd h2.1 hn
/-- A place is looked at. -/
theorem WMark.one {cs : List CoD} {P : List Int} {n : Int} {k : Nat} {l : List Bool} (h : WMark cs (P ++ [n]) P k l) (hn : n ∈ cs.map CoD.n) {x : CoD} (hx : cs[k]? = some x) {t : Bool} (ht : l[k]? = some t) {r : Bool} (hr : r = true ↔ dg.Up (lks cs) n x.n) : WMark cs (P ++ [n]) P (k + 1) (l.set k (t || r)) := by
  refine ⟨by simpa using h.1, fun j s y hs hy => ?_⟩
  by_cases e : k = j
  · subst e
    rw [List.getElem?_set_self (List.getElem?_eq_some_iff.1 ht).1] at hs
    cases hs
    rw [hx] at hy
    cases hy
    have := h.2 k t x ht hx
    rw [if_neg (by omega)] at this
    rw [if_pos (by omega), Bool.or_eq_true, this, hr]
    constructor
    · rintro (⟨m, h1, h2⟩ | h1)
      · exact ⟨m, List.mem_append_left _ h1, h2⟩
      · exact ⟨n, by simp, hn, h1⟩
    · rintro ⟨m, h1, h2, h3⟩
      rcases List.mem_append.1 h1 with h1 | h1
      · exact .inl ⟨m, h1, h2, h3⟩
      · simp at h1
        subst h1
        exact .inr h3
  · rw [List.getElem?_set_ne e] at hs
    have := h.2 j s y hs hy
    by_cases hj : j < k
    · rw [if_pos hj] at this
      rw [if_pos (by omega)]
      exact this
    · rw [if_neg hj] at this
      rw [if_neg (by omega)]
      exact this
/-- At the end the marks are the needed ones. -/
theorem WMark.need {cs : List CoD} {bs : List BrD} {P : List Int} {l : List Bool} {L : List Int} (h : WMark cs P P 0 l) (hP : P = logsOf bs) (hg : dg.Good (lks cs)) (hL : SrtNeed cs bs L) {k : Nat} {t : Bool} {x : CoD} (ht : l[k]? = some t) (hx : cs[k]? = some x) : t = decide (x.n ∈ L) := by
  have h1 := h.2 k t x ht hx
  simp only [ite_self, hP] at h1
  rw [← need_up hg, ← hL.2] at h1
  rw [Bool.eq_iff_iff, h1, decide_eq_true_eq]
end Go.Proofs.Ythhdpabelcgfjaa
