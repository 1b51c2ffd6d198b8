/-
  Plain: what next gives stands there as its bytes, and the other way round; a text that is valid is the bytes of its code points.
-/
import Derived.Test.YtnfnacjadmhclaaDoorTxTxt2
namespace Go.Proofs.YtnfnacjadmhclaaDoor
open Go.RowKit Go.PlainAid

theorem szI_eq (n : Nat) (h : szI (n : Int) ≠ 0) : szI (n : Int) = ((ptB n).length : Int) := by
  have hz := szI_nonneg h
  rw [szI, if_neg (by omega)]
  split
  · rw [ptB1 (by omega)]; rfl
  · split
    · rw [ptB2 (by omega) (by omega)]; rfl
    · split
      · rw [ptB3 (by omega) (by omega)]; rfl
      · rw [ptB4 (by omega)]; rfl

theorem nx_pair (s : ByteArray) (a : Nat) (h : (nx s a).2 = 0) : nx s a = (0, 0) := by
  unfold nx at h ⊢
  split
  · rfl
  · rename_i h1
    rw [if_neg h1] at h
    split
    · rfl
    · rename_i v hv
      rw [hv] at h
      simp only at h
      split
      · rename_i h2
        rw [if_pos h2] at h
        simp only at h
        have : szI v = 0 := by omega
        by_cases hz : (fstB (bt s a)).1 = 0 ∧ (fstB (bt s a)).2 = 0
        · rw [hz.1, hz.2] at hv
          simp [nxGo] at hv
          subst hv
          rw [hz.2] at h2
          exact absurd h2 (by decide)
        · exfalso
          have hb0 := bt_nonneg s a
          apply hz
          refine ⟨?_, h⟩
          have h3 := h
          unfold fstB at h3 ⊢
          split at h3
          · simp at h3
          · split at h3
            · simp at h3
            · split at h3
              · simp at h3
              · split at h3
                · simp at h3
                · rename_i c1 c2 c3 c4
                  rw [if_neg c1, if_neg c2, if_neg c3, if_neg c4]
      · rfl

/-- What is there as a code point's bytes is read as it. -/
theorem nx_at {s : ByteArray} {a n : Nat} (hok : szI (n : Int) ≠ 0) (h : At s a (ptB n)) : nx s a = ((n : Int), ((ptB n).length : Int)) := by
  have hz := szI_nonneg hok
  have he := szI_eq n hok
  by_cases c1 : n < 128
  · rw [ptB1 c1] at h he ⊢
    obtain ⟨g1, g2⟩ := at_one.1 h
    rw [ofNat_toNat (by omega)] at g2
    have e : fstB (bt s a) = ((n : Int), 1) := by rw [fstB, if_pos (by omega), g2]
    rw [nx, e]
    simp only
    rw [if_neg (by omega)]
    simp only [nxGo, show (1 : Int).toNat - 1 = 0 from rfl]
    rw [if_pos (by rw [he]; rfl)]
    rfl
  · by_cases c2 : n < 2048
    · rw [ptB2 (by omega) c2] at h he ⊢
      obtain ⟨⟨g1, g2⟩, h1⟩ := at_cons.1 h
      obtain ⟨g3, g4⟩ := at_one.1 h1
      rw [ofNat_toNat (by omega)] at g2 g4
      have e : fstB (bt s a) = (((n / 64 : Nat) : Int), 2) := by
        rw [fstB, if_neg (by omega), if_pos (by omega)]
        refine Prod.ext ?_ rfl
        simp only; omega
      rw [nx, e]
      simp only
      rw [if_neg (by omega)]
      simp only [show (2 : Int).toNat - 1 = 0 + 1 from rfl]
      rw [nxGo, if_pos (by omega), nxGo]
      simp only
      have ev : ((n / 64 : Nat) : Int) * 64 + bt s (a + 1) % 64 = (n : Int) := by omega
      rw [ev, if_pos (by rw [he]; rfl)]
      rfl
    · by_cases c3 : n < 65536
      · rw [ptB3 (by omega) c3] at h he ⊢
        obtain ⟨⟨g1, g2⟩, h1⟩ := at_cons.1 h
        obtain ⟨⟨g3, g4⟩, h2⟩ := at_cons.1 h1
        obtain ⟨g5, g6⟩ := at_one.1 h2
        rw [ofNat_toNat (by omega)] at g2 g4 g6
        have e : fstB (bt s a) = (((n / 4096 : Nat) : Int), 3) := by
          rw [fstB, if_neg (by omega), if_neg (by omega), if_pos (by omega)]
          refine Prod.ext ?_ rfl
          simp only; omega
        rw [nx, e]
        simp only
        rw [if_neg (by omega)]
        simp only [show (3 : Int).toNat - 1 = 0 + 1 + 1 from rfl]
        rw [nxGo, if_pos (by omega), nxGo, if_pos (by rw [show a + (1 + 1) = a + 1 + 1 by omega]; omega), nxGo]
        simp only
        have ev : (((n / 4096 : Nat) : Int) * 64 + bt s (a + 1) % 64) * 64 + bt s (a + (1 + 1)) % 64 = (n : Int) := by
          rw [show a + (1 + 1) = a + 1 + 1 by omega]; omega
        rw [ev, if_pos (by rw [he]; rfl)]
        rfl
      · rw [ptB4 (by omega)] at h he ⊢
        obtain ⟨⟨g1, g2⟩, h1⟩ := at_cons.1 h
        obtain ⟨⟨g3, g4⟩, h2⟩ := at_cons.1 h1
        obtain ⟨⟨g5, g6⟩, h3⟩ := at_cons.1 h2
        obtain ⟨g7, g8⟩ := at_one.1 h3
        rw [ofNat_toNat (by omega)] at g2 g4 g6 g8
        have e : fstB (bt s a) = (((n / 262144 : Nat) : Int), 4) := by
          rw [fstB, if_neg (by omega), if_neg (by omega), if_neg (by omega), if_pos (by omega)]
          refine Prod.ext ?_ rfl
          simp only; omega
        rw [nx, e]
        simp only
        rw [if_neg (by omega)]
        simp only [show (4 : Int).toNat - 1 = 0 + 1 + 1 + 1 from rfl]
        rw [nxGo, if_pos (by omega), nxGo, if_pos (by rw [show a + (1 + 1) = a + 1 + 1 by omega]; omega), nxGo, if_pos (by rw [show a + (1 + 1 + 1) = a + 1 + 1 + 1 by omega]; omega), nxGo]
        simp only
        have ev : ((((n / 262144 : Nat) : Int) * 64 + bt s (a + 1) % 64) * 64 + bt s (a + (1 + 1)) % 64) * 64 + bt s (a + (1 + 1 + 1)) % 64 = (n : Int) := by
          rw [show a + (1 + 1) = a + 1 + 1 by omega, show a + (1 + 1 + 1) = a + 1 + 1 + 1 by omega]; omega
        rw [ev, if_pos (by rw [he]; rfl)]
        rfl

/-- What is read stands there as its bytes. -/
theorem nx_of {s : ByteArray} {a : Nat} (hk : (nx s a).2 ≠ 0) : ∃ n : Nat, (nx s a).1 = (n : Int) ∧ szI (n : Int) ≠ 0 ∧ At s a (ptB n) ∧ (nx s a).2 = ((ptB n).length : Int) := by
  have hb0 := bt_nonneg s a
  have hb1 := bt_le s a
  obtain ⟨q1, q2, q3, q4⟩ := nx_bd s a hk
  have hok : szI (nx s a).1 ≠ 0 := by omega
  have hz := szI_nonneg hok
  obtain ⟨n, hn⟩ := Int.eq_ofNat_of_zero_le hz.1
  rw [hn] at hok q4 hz
  have he := szI_eq n hok
  refine ⟨n, hn, hok, ?_, by omega⟩
  have hnx : nx s a = ((n : Int), ((ptB n).length : Int)) := Prod.ext hn (by simp only; omega)
  have hpl := ptB_len n
  clear q1 q2 q3 q4 hn hk
  unfold nx at hnx
  split at hnx
  · simp only [Prod.mk.injEq] at hnx; omega
  · rename_i h1
    split at hnx
    · simp only [Prod.mk.injEq] at hnx; omega
    · rename_i v hv
      split at hnx
      · rename_i h2
        simp only [Prod.mk.injEq] at hnx
        obtain ⟨e1, e2⟩ := hnx
        subst e1
        have hsz : (fstB (bt s a)).2 = ((ptB n).length : Int) := by omega
        unfold fstB at hv h1 hsz
        split at hv
        · rename_i c1
          rw [if_pos c1] at h1 hsz
          simp only at h1 hsz hv
          simp [nxGo] at hv
          by_cases d : n < 128
          · rw [ptB1 d, at_one, ofNat_toNat (by omega)]; omega
          · omega
        · rename_i c1
          rw [if_neg c1] at h1 hsz
          split at hv
          · rename_i c2
            rw [if_pos c2] at h1 hsz
            simp only [show (2 : Int).toNat - 1 = 0 + 1 from rfl] at h1 hsz hv
            rw [nxGo] at hv
            split at hv
            · rename_i d1
              simp only [nxGo, Option.some.injEq] at hv
              have m1 := bt_nonneg s (a + 1)
              have m2 := bt_le s (a + 1)
              by_cases d : 128 ≤ n ∧ n < 2048
              · rw [ptB2 d.1 d.2, at_cons, at_one, ofNat_toNat (by omega), ofNat_toNat (by omega)]
                omega
              · have := ptB_len n
                exfalso
                by_cases f1 : n < 128
                · rw [ptB1 f1] at hsz; simp at hsz
                · by_cases f2 : n < 65536
                  · rw [ptB3 (by omega) f2] at hsz; simp at hsz
                  · rw [ptB4 (by omega)] at hsz; simp at hsz
            · simp at hv
          · rename_i c2
            rw [if_neg c2] at h1 hsz
            split at hv
            · rename_i c3
              rw [if_pos c3] at h1 hsz
              simp only [show (3 : Int).toNat - 1 = 0 + 1 + 1 from rfl] at h1 hsz hv
              rw [nxGo] at hv
              split at hv
              · rename_i d1
                rw [nxGo] at hv
                split at hv
                · rename_i d2
                  simp only [nxGo, Option.some.injEq] at hv
                  rw [show a + (1 + 1) = a + 1 + 1 by omega] at hv d2
                  have m1 := bt_nonneg s (a + 1)
                  have m2 := bt_le s (a + 1)
                  have m3 := bt_nonneg s (a + 1 + 1)
                  have m4 := bt_le s (a + 1 + 1)
                  by_cases d : 2048 ≤ n ∧ n < 65536
                  · rw [ptB3 d.1 d.2, at_cons, at_cons, at_one, ofNat_toNat (by omega), ofNat_toNat (by omega), ofNat_toNat (by omega)]
                    omega
                  · exfalso
                    by_cases f1 : n < 128
                    · rw [ptB1 f1] at hsz; simp at hsz
                    · by_cases f2 : n < 2048
                      · rw [ptB2 (by omega) f2] at hsz; simp at hsz
                      · rw [ptB4 (by omega)] at hsz; simp at hsz
                · simp at hv
              · simp at hv
            · rename_i c3
              rw [if_neg c3] at h1 hsz
              split at hv
              · rename_i c4
                rw [if_pos c4] at h1 hsz
                simp only [show (4 : Int).toNat - 1 = 0 + 1 + 1 + 1 from rfl] at h1 hsz hv
                rw [nxGo] at hv
                split at hv
                · rename_i d1
                  rw [nxGo] at hv
                  split at hv
                  · rename_i d2
                    rw [nxGo] at hv
                    split at hv
                    · rename_i d3
                      simp only [nxGo, Option.some.injEq] at hv
                      rw [show a + (1 + 1) = a + 1 + 1 by omega] at hv d2
                      rw [show a + (1 + 1 + 1) = a + 1 + 1 + 1 by omega] at hv d3
                      have m1 := bt_nonneg s (a + 1)
                      have m2 := bt_le s (a + 1)
                      have m3 := bt_nonneg s (a + 1 + 1)
                      have m4 := bt_le s (a + 1 + 1)
                      have m5 := bt_nonneg s (a + 1 + 1 + 1)
                      have m6 := bt_le s (a + 1 + 1 + 1)
                      by_cases d : 65536 ≤ n
                      · rw [ptB4 d, at_cons, at_cons, at_cons, at_one, ofNat_toNat (by omega), ofNat_toNat (by omega), ofNat_toNat (by omega), ofNat_toNat (by omega)]
                        omega
                      · exfalso
                        by_cases f1 : n < 128
                        · rw [ptB1 f1] at hsz; simp at hsz
                        · by_cases f2 : n < 2048
                          · rw [ptB2 (by omega) f2] at hsz; simp at hsz
                          · rw [ptB3 (by omega) (by omega)] at hsz; simp at hsz
                    · simp at hv
                  · simp at hv
                · simp at hv
              · rename_i c4
                rw [if_neg c4] at hsz
                have := ptB_len n
                simp only at hsz
                omega
      · simp only [Prod.mk.injEq] at hnx; omega
end Go.Proofs.YtnfnacjadmhclaaDoor
