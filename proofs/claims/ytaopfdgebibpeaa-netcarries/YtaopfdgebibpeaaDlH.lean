/-
  What is written is read again. No walk.
-/
import Derived.Test.YtaopfdgebibpeaaDlG
namespace Go.Proofs.Ytaopfdgebibpeaa
open Go.RowKit Go.PlainAid

theorem st_op {o : OpD} {s : St} (h : stOf o = some s) : s.op = o := by
  obtain ⟨k, n, t⟩ := o
  simp only [stOf] at h
  split at h
  · rename_i h1
    have ht := empty_eq h1.2.2
    subst ht
    split at h
    · rename_i hk
      cases h
      simp only [St.op, hk]
      congr 1; omega
    · split at h
      · rename_i hk
        cases h
        simp only [St.op, hk]
        congr 1; omega
      · cases h
  · split at h
    · rename_i h1
      cases h
      simp only [St.op, h1.1, h1.2.1]
    · cases h
theorem stl_op : ∀ {ds : List OpD}, ds.any (fun o => (stOf o).isNone) = false → (stl ds).map St.op = ds
  | [], _ => rfl
  | o :: ds, h => by
    simp only [List.any_cons, Bool.or_eq_false_iff] at h
    cases hs : stOf o with
    | none => rw [hs] at h; simp at h
    | some s =>
      have e : stl (o :: ds) = s :: stl ds := by simp [stl, hs]
      rw [e, List.map_cons, st_op hs, stl_op h.2]
theorem chk_any {ds : List OpD} (h : chk ds = 0) : ds.any (fun o => (stOf o).isNone) = false ∧ ds.length ≤ 3000 := by
  rw [chk] at h
  split at h
  · omega
  · split at h
    · omega
    · rename_i h1 h2
      exact ⟨by simpa using h2, by omega⟩
theorem stR_op {ds : List OpD} (h : chk ds = 0) : (stR ds).map St.op = ds := by
  rw [chk_yes ds h]
  exact stl_op (chk_any h).1
theorem stR_raw {ds : List OpD} (hi : ∀ o ∈ ds, o.In) : ∀ s ∈ stR ds, s.Raw := by
  intro s hs
  have h1 := stR_ok hi s hs
  have h2 := ins_small hi s hs
  cases s with
  | keep n => simp only [St.Ok] at h1; simp only [St.Raw]; omega
  | rem n => simp only [St.Ok] at h1; simp only [St.Raw]; omega
  | ins t => exact h2 t rfl
theorem decGo_at {s : ByteArray} : ∀ (l acc : List St) (b : Nat), (∀ st ∈ l, st.Raw) → At s b (stsB l) → decGo s l.length (b : Int) acc = some (acc ++ l, ((b + (stsB l).length : Nat) : Int))
  | [], acc, b, _, _ => by simp [decGo, stsB]
  | st :: l, acc, b, hr, h => by
    have e : stsB (st :: l) = stB st ++ stsB l := by simp [stsB]
    rw [e] at h ⊢
    obtain ⟨h1, h2⟩ := at_append.1 h
    have e1 := tkS_at (hr st (by simp)) h1
    rw [List.length_cons, decGo, e1]
    simp only
    rw [decGo_at l _ _ (fun x hx => hr x (by simp [hx])) h2, List.length_append, List.append_assoc, Nat.add_assoc]
    rfl
theorem dec_at {s : ByteArray} {ds : List OpD} (hi : ∀ o ∈ ds, o.In) (hc : chk ds = 0) (h : At s 0 (encB (stR ds))) : decR s = if (encB (stR ds)).length = s.size then (ds, 0) else ([], 90) := by
  rw [encB] at h
  obtain ⟨h1, h2⟩ := at_append.1 h
  have hl := stR_len ds
  have e1 := pk.tk_at (most := 1125899906842624) (by decide) (by omega) h1
  have e2 := decGo_at (stR ds) [] _ (stR_raw hi) h2
  rw [show ((0 : Nat) : Int) = 0 from rfl] at e1
  rw [decR, e1]
  simp only
  rw [if_neg (by omega), Int.toNat_natCast, e2, List.nil_append, decF, stR_op hc, hc]
  have e3 : (encB (stR ds)).length = 0 + (numB (stR ds).length).length + (stsB (stR ds)).length := by rw [encB, List.length_append]; omega
  by_cases hs : (encB (stR ds)).length = s.size
  · rw [if_neg (by rw [← e3, hs]; simp), if_pos hs]
  · rw [if_pos (by rw [← e3]; left; omega), if_neg hs]
/-- Decode of Encode. -/
theorem dec_enc {ds : List OpD} (hi : ∀ o ∈ ds, o.In) (hc : chk ds = 0) : decR (mk (encB (stR ds))) = (ds, 0) := by
  have h := at_list [] (encB (stR ds)) []
  simp only [List.nil_append, List.append_nil, List.length_nil] at h
  rw [dec_at hi hc h, if_pos (by rw [mk_size])]
theorem dec_more {ds : List OpD} (hi : ∀ o ∈ ds, o.In) (hc : chk ds = 0) (m : List UInt8) (hm : 0 < m.length) : decR (mk (encB (stR ds) ++ m)) = ([], 90) := by
  have h := at_list [] (encB (stR ds)) m
  simp only [List.nil_append, List.length_nil] at h
  rw [dec_at hi hc h, if_neg (by rw [mk_size, List.length_append]; omega)]
theorem encB_len {ds : List OpD} (hi : ∀ o ∈ ds, o.In) : (encB (stR ds)).length ≤ 70000000 := by
  have h1 := stsB_len (ins_small hi)
  have h2 := numB_len (n := (stR ds).length)
  have h3 := stR_len ds
  rw [encB, List.length_append]
  omega
end Go.Proofs.Ytaopfdgebibpeaa
