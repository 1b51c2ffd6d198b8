/-
  Of DlH and PkRefW what is wanted where nothing is encoded. No walk.
-/
import Derived.Test.YtofmficdfkeffaaDoorDMa
import Derived.Test.YtofmficdfkeffaaDoorDArg
import Derived.Test.YtofmficdfkeffaaDoorDlL
namespace Go.Proofs.YtofmficdfkeffaaDoor.pk
open Go.Proofs.YtofmficdfkeffaaDoor
open Go.ChangeShapes Go.WideShapes Go.ChangeAt Go.RowKit Go.PlainAid
theorem add_mk (a b : List UInt8) (W : World) (h : a.length + b.length ≤ 9223372036854775807) : (Op.stringOp .add (mk a) (mk b)).run Tryd.prog W = .ok (.string (mk (a ++ b))) W := by
  rw [run_string_add_sum W _ _ (by rw [mk_size, mk_size]; exact h)]
  congr 2
end Go.Proofs.YtofmficdfkeffaaDoor.pk
namespace Go.Proofs.YtofmficdfkeffaaDoor
open Go.RowKit Go.PlainAid

theorem many_new2 (wr : World) (X : Obj) (l : List Value) (e : Nat) : ∀ j u, l[j]? = some u → ((wr.alloc X).alloc (.cells l.toArray e)).cell? ((⟨wr.heap.size + 1, 0, none⟩ : Addr).add j) = some u := by
  have := many_new (wr.alloc X) l e
  rw [World.size_alloc] at this
  exact this
theorem st_op {o : OpD} {s : St} (h : stOf o = some s) : s.op = o := by
  obtain ⟨k, n, t⟩ := o
  simp only [stOf] at h
  split at h
  · rename_i h1
    have ht := empty_eq h1.2.2
    subst ht
    split at h
    · rename_i hk
      cases h
      simp only [St.op, hk]
      congr 1; omega
    · split at h
      · rename_i hk
        cases h
        simp only [St.op, hk]
        congr 1; omega
      · cases h
  · split at h
    · rename_i h1
      cases h
      simp only [St.op, h1.1, h1.2.1]
    · cases h
theorem stl_op : ∀ {ds : List OpD}, ds.any (fun o => (stOf o).isNone) = false → (stl ds).map St.op = ds
  | [], _ => rfl
  | o :: ds, h => by
    simp only [List.any_cons, Bool.or_eq_false_iff] at h
    cases hs : stOf o with
    | none => rw [hs] at h; simp at h
    | some s =>
      have e : stl (o :: ds) = s :: stl ds := by simp [stl, hs]
      rw [e, List.map_cons, st_op hs, stl_op h.2]
theorem chk_any {ds : List OpD} (h : chk ds = 0) : ds.any (fun o => (stOf o).isNone) = false ∧ ds.length ≤ 3000 := by
  rw [chk] at h
  split at h
  · omega
  · split at h
    · omega
    · rename_i h1 h2
      exact ⟨by simpa using h2, by omega⟩
theorem stR_op {ds : List OpD} (h : chk ds = 0) : (stR ds).map St.op = ds := by
  rw [chk_yes ds h]
  exact stl_op (chk_any h).1
end Go.Proofs.YtofmficdfkeffaaDoor
