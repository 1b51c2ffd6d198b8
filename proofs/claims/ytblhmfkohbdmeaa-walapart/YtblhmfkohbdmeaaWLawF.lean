/-
  Copies of devices; a text set in a row.
-/
import Derived.Test.YtblhmfkohbdmeaaWLawE
namespace Go.Proofs.Ytblhmfkohbdmeaa
open Go.RowKit Go.Maps

section
variable {W W' : World} {p bs bw N : Nat} {s : DevS} {x y : Nat → Sec}
theorem ccopy_any (h : IsDev W p bs bw s) : Calls Try.prog 32 #[.pointer (some ⟨p, 0, none⟩)] W fun e w' => ∃ p' bs' bw', e = .returned (.pointer (some ⟨p', 0, none⟩)) ∧ ND W w' p' bs' bw' s :=
  (copydev_any h).mono fun _ _ ⟨p', bs', bw', h1, h2, h3, h4, h5, h6⟩ => ⟨p', bs', bw', h1, h2, h6, h3, h4, h5⟩
theorem cfuse_any {W0 : World} (h : ND W0 W p bs bw s) (k : Nat) (hk : k ≤ 1000) : Calls Try.prog 15 #[.pointer (some ⟨p, 0, none⟩), .int .i64 (k : Int)] W fun e w' => e = .returned (.int .i64 0) ∧ ND W0 w' p bs bw { s with fuse := (k : Int) } ∧ Only [p, bs, bw] W w' :=
  (fuse_ok h.dev (k : Int) (by omega) (by omega)).mono fun _ _ ⟨h1, h2, h3⟩ => ⟨h1, h.only h2 (h3.mono (by simp)), h3.mono (by simp)⟩
theorem Clean.fuse (h : Clean N x s) (k : Int) : Clean N x { s with fuse := k } := ⟨h.n, h.hs, h.hr, h.rest⟩
theorem slotF_fuse (k : Int) (l : List Nat) : ∀ j, slotF { s with fuse := k } N l j = slotF s N l j
  | 0 => rfl
  | j + 1 => by rw [slotF, slotF, slotF_fuse k l j]; rfl
theorem Rest.fuse (h : Rest N s x) (k : Int) : Rest N { s with fuse := k } x := by
  obtain ⟨l, h1, h2, h3⟩ := h.hd
  exact ⟨h.n, h.keys, l, h1, h2, fun i hi => by rw [slotF_fuse]; exact h3 i hi⟩
theorem ccontent_any {W0 : World} (h : ND W0 W p bs bw s) (hR : Rest N s x) (h7 : 7 ≤ N) (hf : s.fuse = -1) :
    Calls Try.prog 31 #[.pointer (some ⟨p, 0, none⟩)] W fun e w' => ∃ ao cp, e = .returned (.tuple #[.slice ao N cp, .bool true]) ∧ RdT w' (.slice ao N cp) (txs N x) ∧ Below W0.heap.size W0 w' :=
  (content_any h.dev hR h7 hf).mono fun e w' ⟨v, s', h1, _, h2, h3, _, _, _, h4⟩ => by
    have h2' : w'.ownsRow W.heap.size 9 1 v (txs N x).length (sv (txs N x)) := by rw [txs_len]; exact h2
    have hT := RdT.of_own h2'
    obtain ⟨ao, cp, rfl, _⟩ := id hT
    rw [txs_len] at h1 hT
    exact ⟨ao, cp, h1, hT, (h.only h3 h4).b⟩
end

theorem own_set {W : World} {B n g cap j : Nat} {e : TypeId} {L : List Value} (h : W.ownsRow B e 1 (.slice (some ⟨g, 0, none⟩) n cap) n L) (hj : j < n) (v : Value) :
    (W.setCell ⟨g, j, none⟩ v).ownsRow B e 1 (.slice (some ⟨g, 0, none⟩) n cap) n (L.set j v) ∧ (∃ u, W.cell? ⟨g, j, none⟩ = some u) ∧ W.frozen? ⟨g, j, none⟩ = false ∧ B ≤ g := by
  obtain ⟨hl, h2⟩ := h
  rcases h2 with ⟨h1, _⟩ | ⟨g', cap', cur, h1, hb, hg, hn, hm, hc, ht⟩
  · cases h1
  · cases h1
    refine ⟨⟨by rw [List.length_set]; exact hl, .inr ⟨g, cap, cur.setIfInBounds j v, rfl, hb, heap_setCell hg j v, hn, hm, by simpa using hc, ?_⟩⟩, ?_, frozen_at hg j, hb⟩
    · rw [Array.toList_setIfInBounds, ← ht, List.take_set]
    · rw [cell_at hg]
      have : j < cur.size := by omega
      exact ⟨cur[j], by simp [this]⟩

theorem put_snoc (l : List WrD) (o : WrD) (x : Nat → Sec) (i : Nat) : put (l ++ [o]) x i = if i = o.k.toNat then o.x.data.toList else put l x i := by
  unfold put
  rw [fOf_snoc]
  unfold putF
  by_cases h : i = o.k.toNat <;> simp [h]

theorem txs_set (N : Nat) (l : List WrD) (o : WrD) (x : Nat → Sec) (j : Nat) (hj : o.k.toNat = j) : (sv (txs N (put l x))).set j (.string o.x) = sv (txs N (put (l ++ [o]) x)) := by
  apply List.ext_getElem
  · simp [sv, txs]
  · intro i h1 h2
    simp [sv, txs, List.getElem_set, put_snoc]
    by_cases h : j = i
    · rw [if_pos h, if_pos (by omega), mk_data]
    · rw [if_neg h, if_neg (by omega)]

theorem sv_at {N : Nat} {x : Nat → Sec} {j : Nat} (h : j < N) : (sv (txs N x))[j]? = some (.string (mk (x j))) := by simp [sv, txs, h]
theorem txs_inj {N : Nat} {x y : Nat → Sec} (h : txs N x = txs N y) : ∀ i, i < N → x i = y i := fun i hi => by
  have := congrArg (fun l : List ByteArray => l[i]?) h
  simp [txs, hi] at this
  exact mk_eq this
end Go.Proofs.Ytblhmfkohbdmeaa
