/-
  record: the keys of a state's pairs rise.
-/
import Derived.Test.YtdheddgdlindmaaRcS
namespace Go.Proofs.Ytdheddgdlindmaa
open Go.ChangeShapes Go.WideShapes Go.ChangeAt Go.RowKit Go.PlainAid

def Les (a b : PaD) : Prop := Op.bytesLess a.k.toList b.k.toList = true
theorem rwG_pair {α : Type} {num : α → Int} {right : α → Bool} {last : Int} : ∀ {l : List α} {a : Int}, rwG num right last a l = true → l.Pairwise (fun x y => num x < num y)
  | [], _, _ => List.Pairwise.nil
  | y :: l, a, h => by
    rw [rwG] at h
    split at h
    · cases h
    · exact List.Pairwise.cons (fun x hx => (rwG_all h x hx).1) (rwG_pair h)
theorem ofNat_ltR (x y : Nat) (hx : x < 256) (hy : y < 256) : (UInt8.ofNat x < UInt8.ofNat y) = (x < y) := by
  rw [UInt8.lt_iff_toNat_lt]; simp; omega
theorem ofNat_beqR (x y : Nat) (hx : x < 256) (hy : y < 256) : (UInt8.ofNat x == UInt8.ofNat y) = decide (x = y) := by
  rw [Bool.eq_iff_iff]; simp [← UInt8.toNat_inj]; omega
theorem less_first {a b : UInt8} {l m : List UInt8} (h : a < b) : Op.bytesLess (mk (a :: l)).toList (mk (b :: m)).toList = true := by
  rw [Go.ByteArray.toList_eq, Go.ByteArray.toList_eq]
  simp [mk, Op.bytesLess, h]
theorem ofNat_modR (x : Nat) : UInt8.ofNat x = UInt8.ofNat (x % 256) := by
  apply UInt8.toNat_inj.1
  simp
theorem less_two {c : UInt8} {n m : Nat} (h : n < m) (hm : m ≤ 65535) : Op.bytesLess (mk [c, UInt8.ofNat (n / 256), UInt8.ofNat n]).toList (mk [c, UInt8.ofNat (m / 256), UInt8.ofNat m]).toList = true := by
  rw [Go.ByteArray.toList_eq, Go.ByteArray.toList_eq, ofNat_modR n, ofNat_modR m]
  simp only [mk, Op.bytesLess]
  rw [ofNat_beqR _ _ (by omega) (by omega), ofNat_beqR _ _ (by omega) (by omega)]
  simp only [ofNat_ltR _ _ (show n / 256 < 256 by omega) (show m / 256 < 256 by omega), ofNat_ltR _ _ (show n % 256 < 256 by omega) (show m % 256 < 256 by omega)]
  simp
  omega
theorem less_one {c : UInt8} {n m : Nat} (h : n < m) (hm : m ≤ 255) : Op.bytesLess (mk [c, UInt8.ofNat n]).toList (mk [c, UInt8.ofNat m]).toList = true := by
  rw [Go.ByteArray.toList_eq, Go.ByteArray.toList_eq]
  simp only [mk, Op.bytesLess]
  rw [ofNat_beqR _ _ (by omega) (by omega)]
  simp only [ofNat_ltR _ _ (show n < 256 by omega) (show m < 256 by omega)]
  simp
  omega
theorem pr_rise {S : StD} (h : stF S = true) : (prD S).Pairwise Les := by
  have hk := st_ok h
  unfold stF at h
  simp only [Bool.and_eq_true] at h
  obtain ⟨-, h2, h3, h4⟩ := h
  unfold rwB at h2 h3 h4
  simp only [Bool.and_eq_true] at h2 h3 h4
  have p2 := rwG_pair h2.2
  have p3 := rwG_pair h3.2
  have p4 := rwG_pair h4.2
  have fb : ∀ x ∈ S.bs.map brP, ∃ l, x.k = mk (98 :: l) := fun x hx => by obtain ⟨y, -, rfl⟩ := List.mem_map.1 hx; exact ⟨_, rfl⟩
  have fc : ∀ x ∈ S.cs.map coP, ∃ l, x.k = mk (99 :: l) := fun x hx => by obtain ⟨y, -, rfl⟩ := List.mem_map.1 hx; exact ⟨_, rfl⟩
  have fu : ∀ x ∈ S.us.map cuP, ∃ l, x.k = mk (117 :: l) := fun x hx => by obtain ⟨y, -, rfl⟩ := List.mem_map.1 hx; exact ⟨_, rfl⟩
  have fn : ∀ x ∈ [nxP S.nc S.nb], ∃ l, x.k = mk (110 :: l) := fun x hx => by rw [List.mem_singleton.1 hx]; exact ⟨_, rfl⟩
  have cross : ∀ {a b : UInt8}, a < b → ∀ {x y : PaD}, (∃ l, x.k = mk (a :: l)) → (∃ l, y.k = mk (b :: l)) → Les x y := fun hab x y ⟨l, hl⟩ ⟨m, hm⟩ => by
    unfold Les
    rw [hl, hm]
    exact less_first hab
  unfold prD
  refine List.pairwise_append.2 ⟨List.pairwise_append.2 ⟨List.pairwise_append.2 ⟨?_, ?_, ?_⟩, List.pairwise_singleton _ _, ?_⟩, ?_, ?_⟩
  · refine List.pairwise_map.2 (List.Pairwise.imp_of_mem (fun hx hy hlt => ?_) p3)
    have b1 := hk.bs _ hx
    have b2 := hk.bs _ hy
    exact less_two (by omega) (by omega)
  · refine List.pairwise_map.2 (List.Pairwise.imp_of_mem (fun hx hy hlt => ?_) p2)
    have b1 := hk.cs _ hx
    have b2 := hk.cs _ hy
    exact less_two (by omega) (by omega)
  · exact fun x hx y hy => cross (by decide) (fb x hx) (fc y hy)
  · intro x hx y hy
    rcases List.mem_append.1 hx with hx | hx
    · exact cross (by decide) (fb x hx) (fn y hy)
    · exact cross (by decide) (fc x hx) (fn y hy)
  · refine List.pairwise_map.2 (List.Pairwise.imp_of_mem (fun hx hy hlt => ?_) p4)
    have b1 := hk.us _ hx
    have b2 := hk.us _ hy
    exact less_one (by omega) (by omega)
  · intro x hx y hy
    rcases List.mem_append.1 hx with hx | hx
    · rcases List.mem_append.1 hx with hx | hx
      · exact cross (by decide) (fb x hx) (fu y hy)
      · exact cross (by decide) (fc x hx) (fu y hy)
    · exact cross (by decide) (fn x hx) (fu y hy)
theorem less_irr : ∀ l : List UInt8, Op.bytesLess l l = false
  | [] => rfl
  | a :: l => by simp [Op.bytesLess, less_irr l]
/-- Keys tell pairs apart. -/
theorem rise_keys {L : List PaD} (h : L.Pairwise Les) : (L.map PaD.k).Nodup :=
  List.pairwise_map.2 (h.imp (fun hl e => by unfold Les at hl; rw [e, less_irr] at hl; cases hl))
theorem st_val {v a b c : Value} {S : StD} (h : v.cells.toList = [.int .i64 S.nc, .int .i64 S.nb, a, b, c]) : v = .agg (S.fs a b c) := by
  cases v <;> simp [Value.cells] at h
  rename_i cs
  congr 1
  exact Array.toList_inj.1 (by simpa [StD.fs] using h)
end Go.Proofs.Ytdheddgdlindmaa
