/-
  Two pairs: what one does leaves the other as it was.
-/
import Derived.Test.YtblhmfkohbdmeaaWLawS
namespace Go.Proofs.Ytblhmfkohbdmeaa
open Go.RowKit Go.Maps

section
variable {W0 W W' : World} {A : PA} {wl pl : Bool} {s : DevS} {ja : Int} {M : Nat → List ByteArray} {vl : Value} {late : List WrD}

theorem IsPa.setK (h : IsPa W0 W A wl pl s ja M vl late) (K : Nat → Option Obj) (hK : ∀ g o, K g = some o → W.heap[g]? = some o ∧ g ∉ [A.q, A.r, A.p, A.bs, A.bw, A.gm]) : IsPa W0 W { A with K := K } wl pl s ja M vl late :=
  ⟨h.dev, h.wal, h.str, h.may, h.late, h.n, h.lo, h.cap, h.b, h.lq, h.lr, h.lp, h.ls, h.lw, h.lg, hK⟩

/-- Blocks beside it were changed. -/
theorem IsPa.other (h : IsPa W0 W A wl pl s ja M vl late) {S : List Nat} (ho : Only S W W') (hS : ∀ k ∈ S, k ∉ [A.q, A.r, A.p, A.bs, A.bw, A.gm] ∧ W0.heap.size ≤ k) (hT : KeepT W W') : IsPa W0 W' { A with K := fun _ => none } wl pl s ja M vl late := by
  obtain ⟨cur, hc, hm⟩ := h.may
  have hn : ∀ g, g ∈ [A.q, A.r, A.p, A.bs, A.bw, A.gm] → g ∉ S := fun g hg hs => (hS g hs).1 hg
  refine ⟨h.dev.kept ho (hn _ (by simp)) (hn _ (by simp)) (hn _ (by simp)), h.wal.kept ho (hn _ (by simp)), only_heap h.str ho (hn _ (by simp)), ⟨cur, only_heap hc ho (hn _ (by simp)), fun i hi => ?_⟩, h.late.keepT hT, h.n, h.lo, h.cap, h.b.trans (ho.below h.b.size fun k hk => (hS k hk).2), h.lq, h.lr, h.lp, h.ls, h.lw, h.lg, fun g o hg => by cases hg⟩
  obtain ⟨u, h1, h2⟩ := hm i hi
  exact ⟨u, h1, h2.keepT hT⟩

/-- All its blocks lie. -/
theorem IsPa.lts (h : IsPa W0 W A wl pl s ja M vl late) : ∀ g ∈ [A.q, A.r, A.p, A.bs, A.bw, A.gm], g < W.heap.size := by
  obtain ⟨cur, hc, _⟩ := h.may
  have h1 := heap_lt h.str
  have h2 := heap_lt h.wal
  have h3 := h.dev.ltp
  have h4 := h.dev.lts
  have h5 := h.dev.ltw
  have h6 := heap_lt hc
  intro g hg
  simp at hg
  rcases hg with rfl | rfl | rfl | rfl | rfl | rfl <;> assumption
end

/-- A pair that nothing was done with but Commits. -/
structure IsQ (W : World) (A : PA) (s : DevS) (x : Nat → Sec) : Prop where
  dev : IsDev W A.p A.bs A.bw s
  wal : IsWal W A.r A.p s.age false
  str : ∃ vl pl, W.heap[A.q]? = some (.cells #[.pointer (some ⟨A.p, 0, none⟩), .pointer (some ⟨A.r, 0, none⟩), .slice (some ⟨A.gm, 0, none⟩) A.N A.cp, vl, .bool pl] 51)
  cl : Clean A.N x s
  fu : s.fuse = -1
  cap : A.N ≤ A.cp

section
variable {W W' : World} {A : PA} {s : DevS} {x : Nat → Sec}

theorem IsQ.of {W0 : World} {n : Nat} (h : IsP W0 W A false false (newS n) (fun _ => [Go.Proofs.Ytblhmfkohbdmeaa.mk zeroS]) (.slice none 0 0) []) : IsQ W A (newS n) (fun _ => zeroS) :=
  ⟨h.dev, h.wal, ⟨_, _, h.str⟩, ⟨h.n, rfl, rfl, fun _ _ => ⟨rfl, rfl⟩⟩, rfl, h.cap⟩

theorem IsQ.congr (h : IsQ W A s x) (hk : ∀ g ∈ [A.q, A.r, A.p, A.bs, A.bw], W'.heap[g]? = W.heap[g]?) : IsQ W' A s x := by
  obtain ⟨vl, pl, hs⟩ := h.str
  obtain ⟨es, ck, hh, F, hz, hD⟩ := h.dev.safe
  obtain ⟨es2, ck2, hh2, F2, hz2, hD2⟩ := h.dev.waits
  exact ⟨⟨(hk _ (by simp)).trans h.dev.str, ⟨es, ck, (hk _ (by simp)).trans hh, F, hz, hD⟩, ⟨es2, ck2, (hk _ (by simp)).trans hh2, F2, hz2, hD2⟩, h.dev.ne, h.dev.lo, h.dev.hi, h.dev.fz0, h.dev.fz1, h.dev.ag0, h.dev.ag1, h.dev.fs, h.dev.fw⟩, (hk _ (by simp)).trans h.wal, ⟨vl, pl, (hk _ (by simp)).trans hs⟩, h.cl, h.fu, h.cap⟩

theorem IsQ.lts (h : IsQ W A s x) : ∀ g ∈ [A.q, A.r, A.p, A.bs, A.bw], g < W.heap.size := by
  obtain ⟨vl, pl, hs⟩ := h.str
  have h1 := heap_lt hs
  have h2 := heap_lt h.wal
  have h3 := h.dev.ltp
  have h4 := h.dev.lts
  have h5 := h.dev.ltw
  intro g hg
  simp at hg
  rcases hg with rfl | rfl | rfl | rfl | rfl <;> assumption

theorem IsQ.below (h : IsQ W A s x) (hb : Below W.heap.size W W') : IsQ W' A s x := h.congr fun g hg => hb.block g (h.lts g hg)

theorem IsQ.keepT (h : IsQ W A s x) (ho : Only [A.r, A.p, A.bs, A.bw] W W') : KeepT W W' := keepT_only ho fun k hk cur t hc => by
  rcases dw_types h.dev h.wal k hk cur t hc with rfl | rfl <;> decide

theorem IsQ.str_kept (h : IsQ W A s x) (ho : Only [A.r, A.p, A.bs, A.bw] W W') : ∃ vl pl, W'.heap[A.q]? = some (.cells #[.pointer (some ⟨A.p, 0, none⟩), .pointer (some ⟨A.r, 0, none⟩), .slice (some ⟨A.gm, 0, none⟩) A.N A.cp, vl, .bool pl] 51) := by
  obtain ⟨vl, pl, hs⟩ := h.str
  refine ⟨vl, pl, only_heap hs ho fun hm => ?_⟩
  rcases dw_types h.dev h.wal _ hm _ _ hs with e | e <;> exact absurd e (by decide)

theorem IsQ.cells (h : IsQ W A s x) : W.cell? ⟨A.q, 1, none⟩ = some (.pointer (some ⟨A.r, 0, none⟩)) ∧ W.cell? ⟨A.q, 2, none⟩ = some (.slice (some ⟨A.gm, 0, none⟩) A.N A.cp) := by
  obtain ⟨vl, pl, hs⟩ := h.str
  exact ⟨cell_at hs 1, cell_at hs 2⟩

theorem IsQ.hu (h : IsQ W A s x) : s.up = true := by rw [up_of h.fu]; rfl

theorem IsQ.commit {v : Value} {l : List WrD} (h : IsQ W A s x) (hv : RdWr W v l) (hl : l.length ≤ maxLen) (ho : ∀ o ∈ l, o.Ok) (hE : apartE A.N l = 0) :
    Calls Try.prog 28 #[.pointer (some ⟨A.r, 0, none⟩), v] W fun e w' => e = .returned (.int .i64 0) ∧ (∃ s', IsQ w' A s' (put l x)) ∧ Only [A.r, A.p, A.bs, A.bw] W w' := by
  refine (wcommit_any h.wal h.dev h.hu h.cl.n h.cl.hs h.cl.hr hv hl ho hE).mono fun e w' ⟨s', h1, h2, h3, h4, h5⟩ => ?_
  rcases h5 with ⟨g1, g2, g3, _, g5⟩ | ⟨g1, _⟩
  · refine ⟨g1, ⟨s', h1, by rw [h3]; exact g2, h.str_kept h2, ⟨g3.n, g3.hs, g3.hr, fun i hi => ?_⟩, g5 h.fu, h.cap⟩, h2⟩
    have e := put_congr l (h.cl.rest i hi).2
    rw [← e]
    exact g3.rest i hi
  · exact absurd h.fu g1

theorem IsQ.read (h : IsQ W A s x) (i : Nat) (hi : i < A.N) :
    Calls Try.prog 21 #[.pointer (some ⟨A.r, 0, none⟩), .int .i64 (i : Int)] W fun e w' => e = .returned (.tuple #[.string (Go.Proofs.Ytblhmfkohbdmeaa.mk (x i)), .int .i64 0]) ∧ IsQ w' A s x ∧ Only [A.r, A.p, A.bs, A.bw] W w' := by
  have hn := h.cl.n
  refine (wread_ok h.wal h.dev i (rdy_true h.hu) (by omega)).mono fun e w' ⟨h1, h2, h3, h4⟩ => ⟨by rw [h1, (h.cl.rest i hi).2], ⟨h3, h2, h.str_kept h4, h.cl, h.fu, h.cap⟩, h4⟩

/-- Its blocks, as they lie. -/
def keptBy (W : World) (A : PA) (g : Nat) : Option Obj := if g ∈ [A.q, A.r, A.p, A.bs, A.bw] then W.heap[g]? else none
end

/-- A script is played on one pair, and leaves another one as it was. -/
theorem goes_beside {W0 W : World} {P A : PA} {s : DevS} {x : Nat → Sec} {B : Nat} (hst : StOK W0) (h : ∃ pl s M vl late, IsP W0 W P pl pl s M vl late ∧ PI P.N pl s M late B) (hd : ∀ g ∈ [A.q, A.r, A.p, A.bs, A.bw], g ∉ [P.q, P.r, P.p, P.bs, P.bw, P.gm]) (hQ : IsQ W A s x) {v : Value} {ops : List OpX} (hX : RdX W0 v ops) (hok : ∀ o ∈ ops, o.Ok W0) (hB : B + ops.length ≤ 4000000000000) :
    Calls Try.prog 24 #[.pointer (some ⟨P.q, 0, none⟩), v] W fun e w' => e = .returned (.bool true) ∧ ∃ P', P'.q = P.q ∧ After W0 w' P' (B + ops.length) ∧ (∀ g ∈ [A.q, A.r, A.p, A.bs, A.bw], g ∉ [P'.q, P'.r, P'.p, P'.bs, P'.bw, P'.gm]) ∧ IsQ w' A s x := by
  obtain ⟨pl, s1, M, vl, late, hP, hI⟩ := h
  have hPK : IsPa W0 W { P with K := keptBy W A } pl pl s1 s1.age M vl late := hP.setK (keptBy W A) fun g o hg => by
    unfold keptBy at hg
    split at hg
    · rename_i hm
      exact ⟨hg, hd g hm⟩
    · cases hg
  refine (goes_any hst (A := { P with K := keptBy W A }) ⟨pl, s1, M, vl, late, hPK, hI⟩ hX hok hB).mono fun e w' ⟨h1, P', ⟨h2, h3⟩, h4⟩ => ⟨h1, P', h2, h4, ?_, ?_⟩
  · intro g hg
    obtain ⟨pl, s1, M, vl, late, hP', _⟩ := h4
    obtain ⟨o, ho⟩ : ∃ o, W.heap[g]? = some o := ⟨_, Array.getElem?_eq_getElem (hQ.lts g hg)⟩
    exact (hP'.kp g o (by rw [h3]; show keptBy W A g = some o; unfold keptBy; rw [if_pos hg]; exact ho)).2
  · obtain ⟨pl, s1, M, vl, late, hP', _⟩ := h4
    refine hQ.congr fun g hg => ?_
    obtain ⟨o, ho⟩ : ∃ o, W.heap[g]? = some o := ⟨_, Array.getElem?_eq_getElem (hQ.lts g hg)⟩
    rw [ho]
    exact (hP'.kp g o (by rw [h3]; show keptBy W A g = some o; unfold keptBy; rw [if_pos hg]; exact ho)).1
end Go.Proofs.Ytblhmfkohbdmeaa
