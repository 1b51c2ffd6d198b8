/-
  Plain: valid texts as the bytes of their code points; parts of them; their order.
-/
import Derived.Test.YtnfnacjadmhclaaDoorTxUtf
namespace Go.Proofs.YtnfnacjadmhclaaDoor
open Go.RowKit Go.PlainAid

/-- m code points from number f on. -/
def ptM (s : ByteArray) (f m : Nat) : List Int := (List.range m).map (fun i => pt s (f + i))
theorem ptM_succ (s : ByteArray) (f m : Nat) : ptM s f (m + 1) = ptM s f m ++ [pt s (f + m)] := by simp [ptM, List.range_succ]
theorem ptM_zero (s : ByteArray) (k : Nat) : ptM s 0 k = ptL s k := by simp [ptM, ptL]
theorem ptM_length (s : ByteArray) (f m : Nat) : (ptM s f m).length = m := by simp [ptM]

theorem at_nil (s : ByteArray) (a : Nat) (h : a ≤ s.size) : At s a [] := ⟨by simpa using h, fun i hi => by simp at hi⟩

theorem at_ptM {s : ByteArray} {f : Nat} : ∀ (m : Nat), Ok s (f + m) → At s (pos s f) (enc (ptM s f m)) ∧ pos s f + (enc (ptM s f m)).length = pos s (f + m) ∧ ∀ z ∈ ptM s f m, szI z ≠ 0
  | 0, h => ⟨at_nil s _ (pos_le h f (by omega)).2, by simp [ptM, enc], by simp [ptM]⟩
  | m + 1, h => by
    obtain ⟨h1, h2, h3⟩ := at_ptM (s := s) (f := f) m (ok_mono h (show f + m ≤ f + (m + 1) by omega))
    have hk := (h (f + m) (by omega)).2
    obtain ⟨n, g1, g2, g3, g4⟩ := nx_of hk
    have hp := pos_succ hk
    have e : pt s (f + m) = (n : Int) := g1
    rw [ptM_succ, enc_append, enc_one, e, Int.toNat_natCast]
    refine ⟨at_append.2 ⟨h1, by rw [h2]; exact g3⟩, ?_, ?_⟩
    · rw [List.length_append, show f + (m + 1) = (f + m) + 1 by omega]; omega
    · intro z hz
      rcases List.mem_append.1 hz with hz | hz
      · exact h3 z hz
      · simp only [List.mem_singleton] at hz
        rw [hz]; exact g2

theorem part_eq {s : ByteArray} {f m n : Nat} (hv : Valid s n) (h : f + m ≤ n) : s.extract (pos s f) (pos s (f + m)) = mk (enc (ptM s f m)) := by
  obtain ⟨h1, h2, _⟩ := at_ptM m (ok_mono hv.1 h)
  rw [← h2]
  exact at_extract h1

theorem extract_all (s : ByteArray) : s.extract 0 s.size = s := by
  apply ByteArray.ext
  apply Array.ext'
  rw [Lib.extract_data]
  simp
  rw [List.take_of_length_le (by rw [data_len]; exact Nat.le_refl _)]

theorem whole_eq {s : ByteArray} {n : Nat} (hv : Valid s n) : mk (enc (ptL s n)) = s ∧ ∀ z ∈ ptL s n, szI z ≠ 0 := by
  have h := part_eq (f := 0) (m := n) hv (by omega)
  obtain ⟨_, _, h3⟩ := at_ptM (f := 0) n (by simpa using hv.1)
  rw [ptM_zero] at h h3
  rw [Nat.zero_add, hv.2] at h
  exact ⟨by rw [← h]; exact extract_all s, h3⟩

theorem at_list (A F B : List UInt8) : At (mk (A ++ (F ++ B))) A.length F := by
  have hsz : (mk (A ++ (F ++ B))).size = A.length + (F.length + B.length) := by rw [mk_size]; simp
  refine ⟨by omega, fun i hi => ?_⟩
  rw [bt_data _ _ (by omega)]
  congr 2
  simp only [mk]
  simp [hi]

theorem valid_enc (zs : List Int) (hz : ∀ z ∈ zs, szI z ≠ 0) : Valid (mk (enc zs)) zs.length ∧ ptL (mk (enc zs)) zs.length = zs := by
  have step : ∀ k, k ≤ zs.length → Ok (mk (enc zs)) k ∧ pos (mk (enc zs)) k = (enc (zs.take k)).length ∧ ptL (mk (enc zs)) k = zs.take k := by
    intro k
    induction k with
    | zero => intro _; exact ⟨fun j hj => by omega, by simp [pos, enc], by simp [ptL]⟩
    | succ k ih =>
      intro hk
      obtain ⟨h1, h2, h3⟩ := ih (by omega)
      have hlt : k < zs.length := by omega
      have hin : zs.getD k 0 ∈ zs := by simp [hlt]
      have hok := hz _ hin
      have hnn := szI_nonneg hok
      obtain ⟨n, hn⟩ := Int.eq_ofNat_of_zero_le hnn.1
      have hsplit : enc zs = enc (zs.take k) ++ (ptB n ++ enc (zs.drop (k + 1))) := by
        have e1 : zs = zs.take k ++ ([zs.getD k 0] ++ zs.drop (k + 1)) := by
          rw [← List.append_assoc, ← take_snocI zs k hlt, List.take_append_drop]
        have e2 : enc zs = enc (zs.take k ++ ([zs.getD k 0] ++ zs.drop (k + 1))) := by rw [← e1]
        rw [e2, enc_append, enc_append, enc_one, hn, Int.toNat_natCast]
      have hat : At (mk (enc zs)) (pos (mk (enc zs)) k) (ptB n) := by
        rw [h2, hsplit]
        exact at_list _ _ _
      rw [hn] at hok
      have hx := nx_at hok hat
      have hl := ptB_len n
      have hne : (nx (mk (enc zs)) (pos (mk (enc zs)) k)).2 ≠ 0 := by rw [hx]; simp only; omega
      refine ⟨fun j hj => ?_, ?_, ?_⟩
      · by_cases e : j = k
        · subst e; exact ⟨by have := hat.1; omega, hne⟩
        · exact h1 j (by omega)
      · have hp := pos_succ hne
        rw [hx] at hp
        simp only at hp
        rw [enc_succ zs k hlt, hn, Int.toNat_natCast, List.length_append]
        omega
      · rw [ptL_succ, h3, take_snocI zs k hlt, pt, hx, hn]
  obtain ⟨h1, h2, h3⟩ := step zs.length (Nat.le_refl _)
  rw [List.take_length] at h2 h3
  exact ⟨⟨h1, by rw [h2, mk_size]⟩, h3⟩

theorem enc_cons (z : Int) (zs : List Int) : enc (z :: zs) = ptB z.toNat ++ enc zs := by simp [enc]
end Go.Proofs.YtnfnacjadmhclaaDoor
