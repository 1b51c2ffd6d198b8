/-
  Plain: what next gives stands there as its bytes, and the other way round; a text that is valid is the bytes of its code points.
-/
import Derived.Test.YtjimolafoihnpaaDoorTxPlain
namespace Go.Proofs.YtjimolafoihnpaaDoor
open Go.RowKit Go.PlainAid

theorem szI_eq (n : Nat) (h : szI (n : Int) ≠ 0) : szI (n : Int) = ((ptB n).length : Int) := by
  have hz := szI_nonneg h
  rw [szI, if_neg (by omega)]
  split
  · rw [ptB1 (by omega)]; rfl
  · split
    · rw [ptB2 (by omega) (by omega)]; rfl
    · split
      · rw [ptB3 (by omega) (by omega)]; rfl
      · rw [ptB4 (by omega)]; rfl

theorem nx_pair (s : ByteArray) (a : Nat) (h : (nx s a).2 = 0) : nx s a = (0, 0) := by
  unfold nx at h ⊢
  split
  · rfl
  · rename_i h1
    rw [if_neg h1] at h
    split
    · rfl
    · rename_i v hv
      rw [hv] at h
      simp only at h
      split
      · rename_i h2
        rw [if_pos h2] at h
        simp only at h
        have : szI v = 0 := by omega
        by_cases hz : (fstB (bt s a)).1 = 0 ∧ (fstB (bt s a)).2 = 0
        · rw [hz.1, hz.2] at hv
          simp [nxGo] at hv
          subst hv
          rw [hz.2] at h2
          exact absurd h2 (by decide)
        · exfalso
          have hb0 := bt_nonneg s a
          apply hz
          refine ⟨?_, h⟩
          have h3 := h
          unfold fstB at h3 ⊢
          split at h3
          · simp at h3
          · split at h3
            · simp at h3
            · split at h3
              · simp at h3
              · split at h3
                · simp at h3
                · rename_i c1 c2 c3 c4
                  rw [if_neg c1, if_neg c2, if_neg c3, if_neg c4]
      · rfl

/-- What is there as a code point's bytes is read as it. -/
theorem nx_at {s : ByteArray} {a n : Nat} (hok : szI (n : Int) ≠ 0) (h : At s a (ptB n)) : nx s a = ((n : Int), ((ptB n).length : Int)) := by
  have hz := szI_nonneg hok
  have he := szI_eq n hok
  by_cases c1 : n < 128
  · rw [ptB1 c1] at h he ⊢
    obtain ⟨g1, g2⟩ := at_one.1 h
    rw [ofNat_toNat (by omega)] at g2
    have e : fstB (bt s a) = ((n : Int), 1) := by rw [fstB, if_pos (by omega), g2]
    rw [nx, e]
    simp only
    rw [if_neg (by omega)]
    simp only [nxGo, show (1 : Int).toNat - 1 = 0 from rfl]
    rw [if_pos (by rw [he]; rfl)]
    rfl
  · by_cases c2 : n < 2048
    · rw [ptB2 (by omega) c2] at h he ⊢
      obtain ⟨⟨g1, g2⟩, h1⟩ := at_cons.1 h
      obtain ⟨g3, g4⟩ := at_one.1 h1
      rw [ofNat_toNat (by omega)] at g2 g4
      have e : fstB (bt s a) = (((n / 64 : Nat) : Int), 2) := by
        rw [fstB, if_neg (by omega), if_pos (by omega)]
        refine Prod.ext ?_ rfl
        simp only; omega
      rw [nx, e]
      simp only
      rw [if_neg (by omega)]
      simp only [show (2 : Int).toNat - 1 = 0 + 1 from rfl]
      rw [nxGo, if_pos (by omega), nxGo]
      simp only
      have ev : ((n / 64 : Nat) : Int) * 64 + bt s (a + 1) % 64 = (n : Int) := by omega
      rw [ev, if_pos (by rw [he]; rfl)]
      rfl
    · by_cases c3 : n < 65536
      · rw [ptB3 (by omega) c3] at h he ⊢
        obtain ⟨⟨g1, g2⟩, h1⟩ := at_cons.1 h
        obtain ⟨⟨g3, g4⟩, h2⟩ := at_cons.1 h1
        obtain ⟨g5, g6⟩ := at_one.1 h2
        rw [ofNat_toNat (by omega)] at g2 g4 g6
        have e : fstB (bt s a) = (((n / 4096 : Nat) : Int), 3) := by
          rw [fstB, if_neg (by omega), if_neg (by omega), if_pos (by omega)]
          refine Prod.ext ?_ rfl
          simp only; omega
        rw [nx, e]
        simp only
        rw [if_neg (by omega)]
        simp only [show (3 : Int).toNat - 1 = 0 + 1 + 1 from rfl]
        rw [nxGo, if_pos (by omega), nxGo, if_pos (by rw [show a + (1 + 1) = a + 1 + 1 by omega]; omega), nxGo]
        simp only
        have ev : (((n / 4096 : Nat) : Int) * 64 + bt s (a + 1) % 64) * 64 + bt s (a + (1 + 1)) % 64 = (n : Int) := by
          rw [show a + (1 + 1) = a + 1 + 1 by omega]; omega
        rw [ev, if_pos (by rw [he]; rfl)]
        rfl
      · rw [ptB4 (by omega)] at h he ⊢
        obtain ⟨⟨g1, g2⟩, h1⟩ := at_cons.1 h
        obtain ⟨⟨g3, g4⟩, h2⟩ := at_cons.1 h1
        obtain ⟨⟨g5, g6⟩, h3⟩ := at_cons.1 h2
        obtain ⟨g7, g8⟩ := at_one.1 h3
        rw [ofNat_toNat (by omega)] at g2 g4 g6 g8
        have e : fstB (bt s a) = (((n / 262144 : Nat) : Int), 4) := by
          rw [fstB, if_neg (by omega), if_neg (by omega), if_neg (by omega), if_pos (by omega)]
          refine Prod.ext ?_ rfl
          simp only; omega
        rw [nx, e]
        simp only
        rw [if_neg (by omega)]
        simp only [show (4 : Int).toNat - 1 = 0 + 1 + 1 + 1 from rfl]
        rw [nxGo, if_pos (by omega), nxGo, if_pos (by rw [show a + (1 + 1) = a + 1 + 1 by omega]; omega), nxGo, if_pos (by rw [show a + (1 + 1 + 1) = a + 1 + 1 + 1 by omega]; omega), nxGo]
        simp only
        have ev : ((((n / 262144 : Nat) : Int) * 64 + bt s (a + 1) % 64) * 64 + bt s (a + (1 + 1)) % 64) * 64 + bt s (a + (1 + 1 + 1)) % 64 = (n : Int) := by
          rw [show a + (1 + 1) = a + 1 + 1 by omega, show a + (1 + 1 + 1) = a + 1 + 1 + 1 by omega]; omega
        rw [ev, if_pos (by rw [he]; rfl)]
        rfl

/-- What is read stands there as its bytes. -/
theorem nx_of {s : ByteArray} {a : Nat} (hk : (nx s a).2 ≠ 0) : ∃ n : Nat, (nx s a).1 = (n : Int) ∧ szI (n : Int) ≠ 0 ∧ At s a (ptB n) ∧ (nx s a).2 = ((ptB n).length : Int) := by
  have hb0 := bt_nonneg s a
  have hb1 := bt_le s a
  obtain ⟨q1, q2, q3, q4⟩ := nx_bd s a hk
  have hok : szI (nx s a).1 ≠ 0 := by omega
  have hz := szI_nonneg hok
  obtain ⟨n, hn⟩ := Int.eq_ofNat_of_zero_le hz.1
  rw [hn] at hok q4 hz
  have he := szI_eq n hok
  refine ⟨n, hn, hok, ?_, by omega⟩
  have hnx : nx s a = ((n : Int), ((ptB n).length : Int)) := Prod.ext hn (by simp only; omega)
  have hpl := ptB_len n
  clear q1 q2 q3 q4 hn hk
  unfold nx at hnx
  split at hnx
  · simp only [Prod.mk.injEq] at hnx; omega
  · rename_i h1
    split at hnx
    · simp only [Prod.mk.injEq] at hnx; omega
    · rename_i v hv
      split at hnx
      · rename_i h2
        simp only [Prod.mk.injEq] at hnx
        obtain ⟨e1, e2⟩ := hnx
        subst e1
        have hsz : (fstB (bt s a)).2 = ((ptB n).length : Int) := by omega
        unfold fstB at hv h1 hsz
        split at hv
        · rename_i c1
          rw [if_pos c1] at h1 hsz
          simp only at h1 hsz hv
          simp [nxGo] at hv
          by_cases d : n < 128
          · rw [ptB1 d, at_one, ofNat_toNat (by omega)]; omega
          · omega
        · rename_i c1
          rw [if_neg c1] at h1 hsz
          split at hv
          · rename_i c2
            rw [if_pos c2] at h1 hsz
            simp only [show (2 : Int).toNat - 1 = 0 + 1 from rfl] at h1 hsz hv
            rw [nxGo] at hv
            split at hv
            · rename_i d1
              simp only [nxGo, Option.some.injEq] at hv
              have m1 := bt_nonneg s (a + 1)
              have m2 := bt_le s (a + 1)
              by_cases d : 128 ≤ n ∧ n < 2048
              · rw [ptB2 d.1 d.2, at_cons, at_one, ofNat_toNat (by omega), ofNat_toNat (by omega)]
                omega
              · have := ptB_len n
                exfalso
                by_cases f1 : n < 128
                · rw [ptB1 f1] at hsz; simp at hsz
                · by_cases f2 : n < 65536
                  · rw [ptB3 (by omega) f2] at hsz; simp at hsz
                  · rw [ptB4 (by omega)] at hsz; simp at hsz
            · simp at hv
          · rename_i c2
            rw [if_neg c2] at h1 hsz
            split at hv
            · rename_i c3
              rw [if_pos c3] at h1 hsz
              simp only [show (3 : Int).toNat - 1 = 0 + 1 + 1 from rfl] at h1 hsz hv
              rw [nxGo] at hv
              split at hv
              · rename_i d1
                rw [nxGo] at hv
                split at hv
                · rename_i d2
                  simp only [nxGo, Option.some.injEq] at hv
                  rw [show a + (1 + 1) = a + 1 + 1 by omega] at hv d2
                  have m1 := bt_nonneg s (a + 1)
                  have m2 := bt_le s (a + 1)
                  have m3 := bt_nonneg s (a + 1 + 1)
                  have m4 := bt_le s (a + 1 + 1)
                  by_cases d : 2048 ≤ n ∧ n < 65536
                  · rw [ptB3 d.1 d.2, at_cons, at_cons, at_one, ofNat_toNat (by omega), ofNat_toNat (by omega), ofNat_toNat (by omega)]
                    omega
                  · exfalso
                    by_cases f1 : n < 128
                    · rw [ptB1 f1] at hsz; simp at hsz
                    · by_cases f2 : n < 2048
                      · rw [ptB2 (by omega) f2] at hsz; simp at hsz
                      · rw [ptB4 (by omega)] at hsz; simp at hsz
                · simp at hv
              · simp at hv
            · rename_i c3
              rw [if_neg c3] at h1 hsz
              split at hv
              · rename_i c4
                rw [if_pos c4] at h1 hsz
                simp only [show (4 : Int).toNat - 1 = 0 + 1 + 1 + 1 from rfl] at h1 hsz hv
                rw [nxGo] at hv
                split at hv
                · rename_i d1
                  rw [nxGo] at hv
                  split at hv
                  · rename_i d2
                    rw [nxGo] at hv
                    split at hv
                    · rename_i d3
                      simp only [nxGo, Option.some.injEq] at hv
                      rw [show a + (1 + 1) = a + 1 + 1 by omega] at hv d2
                      rw [show a + (1 + 1 + 1) = a + 1 + 1 + 1 by omega] at hv d3
                      have m1 := bt_nonneg s (a + 1)
                      have m2 := bt_le s (a + 1)
                      have m3 := bt_nonneg s (a + 1 + 1)
                      have m4 := bt_le s (a + 1 + 1)
                      have m5 := bt_nonneg s (a + 1 + 1 + 1)
                      have m6 := bt_le s (a + 1 + 1 + 1)
                      by_cases d : 65536 ≤ n
                      · rw [ptB4 d, at_cons, at_cons, at_cons, at_one, ofNat_toNat (by omega), ofNat_toNat (by omega), ofNat_toNat (by omega), ofNat_toNat (by omega)]
                        omega
                      · exfalso
                        by_cases f1 : n < 128
                        · rw [ptB1 f1] at hsz; simp at hsz
                        · by_cases f2 : n < 2048
                          · rw [ptB2 (by omega) f2] at hsz; simp at hsz
                          · rw [ptB3 (by omega) (by omega)] at hsz; simp at hsz
                    · simp at hv
                  · simp at hv
                · simp at hv
              · rename_i c4
                rw [if_neg c4] at hsz
                have := ptB_len n
                simp only at hsz
                omega
      · simp only [Prod.mk.injEq] at hnx; omega
end Go.Proofs.YtjimolafoihnpaaDoor

/-
  Plain: valid texts as the bytes of their code points; parts of them; their order.
-/
namespace Go.Proofs.YtjimolafoihnpaaDoor
open Go.RowKit Go.PlainAid

/-- m code points from number f on. -/
def ptM (s : ByteArray) (f m : Nat) : List Int := (List.range m).map (fun i => pt s (f + i))
theorem ptM_succ (s : ByteArray) (f m : Nat) : ptM s f (m + 1) = ptM s f m ++ [pt s (f + m)] := by simp [ptM, List.range_succ]
theorem ptM_zero (s : ByteArray) (k : Nat) : ptM s 0 k = ptL s k := by simp [ptM, ptL]
theorem ptM_length (s : ByteArray) (f m : Nat) : (ptM s f m).length = m := by simp [ptM]

theorem at_nil (s : ByteArray) (a : Nat) (h : a ≤ s.size) : At s a [] := ⟨by simpa using h, fun i hi => by simp at hi⟩

theorem at_ptM {s : ByteArray} {f : Nat} : ∀ (m : Nat), Ok s (f + m) → At s (pos s f) (enc (ptM s f m)) ∧ pos s f + (enc (ptM s f m)).length = pos s (f + m) ∧ ∀ z ∈ ptM s f m, szI z ≠ 0
  | 0, h => ⟨at_nil s _ (pos_le h f (by omega)).2, by simp [ptM, enc], by simp [ptM]⟩
  | m + 1, h => by
    obtain ⟨h1, h2, h3⟩ := at_ptM (s := s) (f := f) m (ok_mono h (show f + m ≤ f + (m + 1) by omega))
    have hk := (h (f + m) (by omega)).2
    obtain ⟨n, g1, g2, g3, g4⟩ := nx_of hk
    have hp := pos_succ hk
    have e : pt s (f + m) = (n : Int) := g1
    rw [ptM_succ, enc_append, enc_one, e, Int.toNat_natCast]
    refine ⟨at_append.2 ⟨h1, by rw [h2]; exact g3⟩, ?_, ?_⟩
    · rw [List.length_append, show f + (m + 1) = (f + m) + 1 by omega]; omega
    · intro z hz
      rcases List.mem_append.1 hz with hz | hz
      · exact h3 z hz
      · simp only [List.mem_singleton] at hz
        rw [hz]; exact g2

theorem part_eq {s : ByteArray} {f m n : Nat} (hv : Valid s n) (h : f + m ≤ n) : s.extract (pos s f) (pos s (f + m)) = mk (enc (ptM s f m)) := by
  obtain ⟨h1, h2, _⟩ := at_ptM m (ok_mono hv.1 h)
  rw [← h2]
  exact at_extract h1

theorem extract_all (s : ByteArray) : s.extract 0 s.size = s := by
  apply ByteArray.ext
  apply Array.ext'
  rw [Lib.extract_data]
  simp
  rw [List.take_of_length_le (by rw [data_len]; exact Nat.le_refl _)]

theorem whole_eq {s : ByteArray} {n : Nat} (hv : Valid s n) : mk (enc (ptL s n)) = s ∧ ∀ z ∈ ptL s n, szI z ≠ 0 := by
  have h := part_eq (f := 0) (m := n) hv (by omega)
  obtain ⟨_, _, h3⟩ := at_ptM (f := 0) n (by simpa using hv.1)
  rw [ptM_zero] at h h3
  rw [Nat.zero_add, hv.2] at h
  exact ⟨by rw [← h]; exact extract_all s, h3⟩

theorem at_list (A F B : List UInt8) : At (mk (A ++ (F ++ B))) A.length F := by
  have hsz : (mk (A ++ (F ++ B))).size = A.length + (F.length + B.length) := by rw [mk_size]; simp
  refine ⟨by omega, fun i hi => ?_⟩
  rw [bt_data _ _ (by omega)]
  congr 2
  simp only [mk]
  simp [hi]

theorem valid_enc (zs : List Int) (hz : ∀ z ∈ zs, szI z ≠ 0) : Valid (mk (enc zs)) zs.length ∧ ptL (mk (enc zs)) zs.length = zs := by
  have step : ∀ k, k ≤ zs.length → Ok (mk (enc zs)) k ∧ pos (mk (enc zs)) k = (enc (zs.take k)).length ∧ ptL (mk (enc zs)) k = zs.take k := by
    intro k
    induction k with
    | zero => intro _; exact ⟨fun j hj => by omega, by simp [pos, enc], by simp [ptL]⟩
    | succ k ih =>
      intro hk
      obtain ⟨h1, h2, h3⟩ := ih (by omega)
      have hlt : k < zs.length := by omega
      have hin : zs.getD k 0 ∈ zs := by simp [hlt]
      have hok := hz _ hin
      have hnn := szI_nonneg hok
      obtain ⟨n, hn⟩ := Int.eq_ofNat_of_zero_le hnn.1
      have hsplit : enc zs = enc (zs.take k) ++ (ptB n ++ enc (zs.drop (k + 1))) := by
        have e1 : zs = zs.take k ++ ([zs.getD k 0] ++ zs.drop (k + 1)) := by
          rw [← List.append_assoc, ← take_snocI zs k hlt, List.take_append_drop]
        have e2 : enc zs = enc (zs.take k ++ ([zs.getD k 0] ++ zs.drop (k + 1))) := by rw [← e1]
        rw [e2, enc_append, enc_append, enc_one, hn, Int.toNat_natCast]
      have hat : At (mk (enc zs)) (pos (mk (enc zs)) k) (ptB n) := by
        rw [h2, hsplit]
        exact at_list _ _ _
      rw [hn] at hok
      have hx := nx_at hok hat
      have hl := ptB_len n
      have hne : (nx (mk (enc zs)) (pos (mk (enc zs)) k)).2 ≠ 0 := by rw [hx]; simp only; omega
      refine ⟨fun j hj => ?_, ?_, ?_⟩
      · by_cases e : j = k
        · subst e; exact ⟨by have := hat.1; omega, hne⟩
        · exact h1 j (by omega)
      · have hp := pos_succ hne
        rw [hx] at hp
        simp only at hp
        rw [enc_succ zs k hlt, hn, Int.toNat_natCast, List.length_append]
        omega
      · rw [ptL_succ, h3, take_snocI zs k hlt, pt, hx, hn]
  obtain ⟨h1, h2, h3⟩ := step zs.length (Nat.le_refl _)
  rw [List.take_length] at h2 h3
  exact ⟨⟨h1, by rw [h2, mk_size]⟩, h3⟩

theorem enc_cons (z : Int) (zs : List Int) : enc (z :: zs) = ptB z.toNat ++ enc zs := by simp [enc]
end Go.Proofs.YtjimolafoihnpaaDoor
