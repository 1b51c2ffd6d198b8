/-
  What the reference's Formed does, in plain words; its memory.
-/
import Derived.Test.YtfhbkaiioiihjaaDoorDrH
namespace Go.Proofs.YtfhbkaiioiihjaaDoor
open Go.ChangeShapes Go.WideShapes Go.ChangeAt Go.RowKit Go.PlainAid

/-- What is kept and put in up to a gap, and in it. -/
def gapM (ins : List ByteArray) (gone : List Bool) (i : Nat) : List (Nat ⊕ Int) := mkU 0 (gapW ins gone i) ++ (pts (ins.getD i ⟨#[]⟩)).map .inr
theorem pts_nil : pts ⟨#[]⟩ = [] := rfl
theorem gapM_R {ins : List ByteArray} {gone : List Bool} {i : Nat} (h : gone.getD i false = true) (he : ins.getD (i + 1) ⟨#[]⟩ = ⟨#[]⟩) : gapM ins gone (i + 1) = gapM ins gone i := by
  rw [gapM, gapM, he, pts_nil, gapW, mkU_append, mkU_append, mkU_I, h]
  simp [mkU]
theorem gapM_K {ins : List ByteArray} {gone : List Bool} {i : Nat} (h : gone.getD i false = false) (he : ins.getD (i + 1) ⟨#[]⟩ = ⟨#[]⟩) : gapM ins gone (i + 1) = gapM ins gone i ++ [.inl i] := by
  rw [gapM, gapM, he, pts_nil, gapW, mkU_append, mkU_append, mkU_I, h, baseU_gap, baseU_I]
  simp [mkU]
theorem gapM_Rs {ins : List ByteArray} {gone : List Bool} {g : Nat} (he : ∀ j, g < j → ins.getD j ⟨#[]⟩ = ⟨#[]⟩) : ∀ m, (∀ j, g ≤ j → j < g + m → gone.getD j false = true) → gapM ins gone (g + m) = gapM ins gone g
  | 0, _ => rfl
  | m + 1, h => by
    rw [← Nat.add_assoc, gapM_R (h _ (by omega) (by omega)) (he _ (by omega)), gapM_Rs he m (fun j h1 h2 => h j h1 (by omega))]
theorem gapM_Ks {ins : List ByteArray} {gone : List Bool} {a : Nat} (he : ∀ j, a < j → ins.getD j ⟨#[]⟩ = ⟨#[]⟩) : ∀ m, (∀ j, a ≤ j → j < a + m → gone.getD j false = false) → gapM ins gone (a + m) = gapM ins gone a ++ (List.range m).map (fun j => .inl (a + j))
  | 0, _ => by simp
  | m + 1, h => by
    rw [← Nat.add_assoc, gapM_K (h _ (by omega) (by omega)) (he _ (by omega)), gapM_Ks he m (fun j h1 h2 => h j h1 (by omega)), List.range_succ]
    simp
theorem gapW_congr {ins ins' : List ByteArray} {gone gone' : List Bool} : ∀ i, (∀ j, j < i → ins'.getD j ⟨#[]⟩ = ins.getD j ⟨#[]⟩ ∧ gone'.getD j false = gone.getD j false) → gapW ins' gone' i = gapW ins gone i
  | 0, _ => rfl
  | i + 1, h => by
    rw [gapW, gapW, (h i (by omega)).1, (h i (by omega)).2, gapW_congr i (fun j hj => h j (by omega))]
theorem cat_ok {a t : ByteArray} (ha : 0 ≤ cpl a) (ht : 0 ≤ cpl t) : 0 ≤ cpl (mk (a.data.toList ++ t.data.toList)) ∧ pts (mk (a.data.toList ++ t.data.toList)) = pts a ++ pts t := by
  rw [ins_enc ha, ins_enc ht, ← enc_append]
  have h := cpl_enc (p := pts a ++ pts t) (fun z hz => by
    rcases List.mem_append.1 hz with h | h
    · exact pts_ok ha z h
    · exact pts_ok ht z h)
  exact ⟨by rw [h.1]; omega, h.2⟩

/-- What Formed has on its way. -/
structure FI (l : List St) (n k g : Nat) (ins : List ByteArray) (gone : List Bool) : Prop where
  li : ins.length = n + 1
  lg : gone.length = n
  ga : g ≤ bsum (l.take k)
  m : gapM ins gone g = mkU 0 (uw (l.take k))
  r : ∀ j, g ≤ j → j < bsum (l.take k) → gone.getD j false = true
  f : ∀ j, bsum (l.take k) ≤ j → gone.getD j false = false
  e : ∀ j, g < j → ins.getD j ⟨#[]⟩ = ⟨#[]⟩
  v : ∀ t ∈ ins, 0 ≤ cpl t ∧ t.size ≤ 4 * tsum (l.take k)

theorem take_uw {l : List St} {k : Nat} (h : k < l.length) : uw (l.take (k + 1)) = uw (l.take k) ++ (l[k]).u := by
  rw [List.take_succ_eq_append_getElem h, uw_append]; simp [uw]
theorem fi_start (l : List St) (n : Nat) : FI l n 0 0 (List.replicate (n + 1) ⟨#[]⟩) (List.replicate n false) := by
  have hi : ∀ j, (List.replicate (n + 1) (⟨#[]⟩ : ByteArray)).getD j ⟨#[]⟩ = ⟨#[]⟩ := fun j => by
    by_cases h : j < n + 1 <;> simp [List.getD, h]
  refine ⟨by simp, by simp, by simp, ?_, fun j _ h => by simp [bsum] at h, fun j _ => ?_, fun j _ => hi j, fun t ht => ?_⟩
  · rw [gapM, hi, pts_nil]; rfl
  · by_cases h : j < n <;> simp [List.getD, h]
  · have := List.eq_of_mem_replicate ht
    subst this
    exact ⟨by decide, by show 0 ≤ _; omega⟩
theorem fi_keep {l : List St} {n k g m : Nat} {ins : List ByteArray} {gone : List Bool} (h : FI l n k g ins gone) (hk : k < l.length) (hs : l[k] = .keep m) : FI l n (k + 1) (bsum (l.take k) + m) ins gone := by
  have hb := bsum_take l k hk
  have ht := tsum_take l k hk
  rw [hs] at hb ht
  simp only [St.b, St.c] at hb ht
  refine ⟨h.li, h.lg, by omega, ?_, fun j h1 h2 => by omega, fun j h1 => h.f j (by omega), fun j h1 => h.e j (by have := h.ga; omega), fun t ht' => ⟨(h.v t ht').1, by have := (h.v t ht').2; omega⟩⟩
  have e1 : gapM ins gone (bsum (l.take k)) = gapM ins gone g := by
    have := gapM_Rs (g := g) h.e (bsum (l.take k) - g) (fun j h1 h2 => h.r j h1 (by omega))
    rwa [show g + (bsum (l.take k) - g) = bsum (l.take k) by have := h.ga; omega] at this
  rw [gapM_Ks (fun j hj => h.e j (by have := h.ga; omega)) m (fun j h1 h2 => h.f j h1), e1, h.m, take_uw hk, hs, mkU_append, base_uw]
  simp only [St.u, mkU_K, Nat.zero_add]
theorem fi_rem {l : List St} {n k g m : Nat} {ins : List ByteArray} {gone gone' : List Bool} (h : FI l n k g ins gone) (hk : k < l.length) (hs : l[k] = .rem m) (hl : gone'.length = n)
    (h1 : ∀ j, j < bsum (l.take k) → gone'.getD j false = gone.getD j false) (h2 : ∀ j, bsum (l.take k) ≤ j → j < bsum (l.take k) + m → gone'.getD j false = true) (h3 : ∀ j, bsum (l.take k) + m ≤ j → gone'.getD j false = gone.getD j false) : FI l n (k + 1) g ins gone' := by
  have hb := bsum_take l k hk
  have ht := tsum_take l k hk
  rw [hs] at hb ht
  simp only [St.b, St.c] at hb ht
  have hga := h.ga
  refine ⟨h.li, hl, by omega, ?_, fun j q1 q2 => ?_, fun j q => ?_, h.e, fun t ht' => ⟨(h.v t ht').1, by have := (h.v t ht').2; omega⟩⟩
  · have e := gapW_congr (ins := ins) (ins' := ins) (gone := gone) (gone' := gone') g (fun j hj => ⟨rfl, h1 j (by omega)⟩)
    have hm := h.m
    rw [gapM] at hm ⊢
    rw [e, hm, take_uw hk, hs, mkU_append]
    simp only [St.u, mkU_R, List.append_nil]
  · by_cases hj : j < bsum (l.take k)
    · rw [h1 j hj]; exact h.r j q1 hj
    · exact h2 j (by omega) (by omega)
  · rw [h3 j (by omega)]; exact h.f j (by omega)
theorem fi_ins {l : List St} {n k g : Nat} {t : ByteArray} {ins : List ByteArray} {gone : List Bool} (h : FI l n k g ins gone) (hk : k < l.length) (hs : l[k] = .ins t) (ho : (St.ins t).Ok) (hgn : g ≤ n) :
    FI l n (k + 1) g (ins.set g (mk ((ins.getD g ⟨#[]⟩).data.toList ++ t.data.toList))) gone := by
  have hb := bsum_take l k hk
  have ht := tsum_take l k hk
  rw [hs] at hb ht
  simp only [St.b, St.c, St.Ok] at hb ht ho
  have hga := h.ga
  have hli := h.li
  have hin : ins.getD g ⟨#[]⟩ ∈ ins := by simp [show g < ins.length by omega]
  have hvg := h.v _ hin
  have hcat := cat_ok hvg.1 (t := t) (by omega)
  have hget : ∀ j, j ≠ g → (ins.set g (mk ((ins.getD g ⟨#[]⟩).data.toList ++ t.data.toList))).getD j ⟨#[]⟩ = ins.getD j ⟨#[]⟩ := fun j hj => by
    rw [List.getD_eq_getElem?_getD, List.getElem?_set_ne (fun e => hj e.symm), List.getD_eq_getElem?_getD]
  have hgg : (ins.set g (mk ((ins.getD g ⟨#[]⟩).data.toList ++ t.data.toList))).getD g ⟨#[]⟩ = mk ((ins.getD g ⟨#[]⟩).data.toList ++ t.data.toList) := by
    have : g < ins.length := by omega
    simp [List.getD, this]
  refine ⟨by rw [List.length_set]; exact hli, h.lg, by omega, ?_, fun j q1 q2 => h.r j q1 (by omega), fun j q => h.f j (by omega), fun j q => ?_, fun x hx => ?_⟩
  · have e := gapW_congr (ins := ins) (ins' := ins.set g (mk ((ins.getD g ⟨#[]⟩).data.toList ++ t.data.toList))) (gone := gone) (gone' := gone) g (fun j hj => ⟨hget j (by omega), rfl⟩)
    have hm := h.m
    rw [gapM] at hm ⊢
    rw [e, hgg, hcat.2, List.map_append, ← List.append_assoc, hm, take_uw hk, hs, mkU_append]
    simp only [St.u, mkU_I]
  · rw [hget j (by omega)]; exact h.e j q
  · rcases List.mem_or_eq_of_mem_set hx with hx | hx
    · have := h.v x hx; exact ⟨this.1, by omega⟩
    · subst hx
      refine ⟨hcat.1, ?_⟩
      have hs1 := hvg.2
      have hs2 := size_cpl ho.1
      rw [mk_size, List.length_append, data_len, data_len]
      omega
/-- The form's word does what the delta does. -/
theorem fi_end {l : List St} {n g : Nat} {ins : List ByteArray} {gone : List Bool} (h : FI l n l.length g ins gone) (hn : bsum l = n) : baseU (formW ins gone) = baseU (uw l) ∧ mkU 0 (formW ins gone) = mkU 0 (uw l) := by
  have hm := h.m
  have hr := h.r
  have hga := h.ga
  rw [List.take_length] at hm hr hga
  have e1 := gapM_Rs (g := g) h.e (n - g) (fun j h1 h2 => hr j h1 (by omega))
  rw [show g + (n - g) = n by omega] at e1
  refine ⟨?_, ?_⟩
  · rw [formW, baseU_append, baseU_gap, baseU_I, h.lg, base_uw, hn]; rfl
  · rw [formW, mkU_append, mkU_I, h.lg, ← hm, ← e1, gapM]

/-- A form on its way, in memory. -/
structure FM (n : Nat) (w W : World) (pr pb gi gg : Nat) (ins : List ByteArray) (gone : List Bool) : Prop where
  box : W.heap[pb]? = some (.cells #[.slice (some ⟨gi, 0, none⟩) (n + 1) (n + 1), .slice (some ⟨gg, 0, none⟩) n n] 55)
  ir : W.heap[gi]? = some (.cells (ins.map Value.string).toArray 9)
  gr : W.heap[gg]? = some (.cells (gone.map Value.bool).toArray 4)
  res : W.heap[pr]? = some (.cells #[.slice none 0 0, .slice none 0 0] 55)
  ne : pr ≠ pb
  pb0 : w.heap.size ≤ pb
  gi0 : w.heap.size ≤ gi
  gg0 : w.heap.size ≤ gg
  pr0 : w.heap.size ≤ pr
  bel : Below w.heap.size w W

theorem heap_ne {W : World} {p q : Nat} {c d : Array Value} {s t : TypeId} (h : W.heap[p]? = some (.cells c s)) (k : W.heap[q]? = some (.cells d t)) (hne : s ≠ t) : p ≠ q := fun e => by
  subst e
  rw [h] at k
  simp at k
  exact hne k.2
theorem FM.setG {n : Nat} {w W : World} {pr pb gi gg : Nat} {ins : List ByteArray} {gone : List Bool} (h : FM n w W pr pb gi gg ins gone) (j : Nat) : FM n w (W.setCell ⟨gg, j, none⟩ (.bool true)) pr pb gi gg ins (gone.set j true) := by
  have n1 := heap_ne h.box h.gr (by decide)
  have n2 := heap_ne h.ir h.gr (by decide)
  have n3 := heap_ne h.res h.gr (by decide)
  refine ⟨?_, ?_, ?_, ?_, h.ne, h.pb0, h.gi0, h.gg0, h.pr0, below_set h.bel h.gg0 h.bel.size⟩
  · rw [Below.heap_setCell W ⟨gg, j, none⟩ _ pb n1]; exact h.box
  · rw [Below.heap_setCell W ⟨gg, j, none⟩ _ gi n2]; exact h.ir
  · rw [heap_setCell h.gr j _]
    simp
  · rw [Below.heap_setCell W ⟨gg, j, none⟩ _ pr n3]; exact h.res
theorem FM.setI {n : Nat} {w W : World} {pr pb gi gg : Nat} {ins : List ByteArray} {gone : List Bool} (h : FM n w W pr pb gi gg ins gone) (j : Nat) (t : ByteArray) : FM n w (W.setCell ⟨gi, j, none⟩ (.string t)) pr pb gi gg (ins.set j t) gone := by
  have n1 := heap_ne h.box h.ir (by decide)
  have n2 := heap_ne h.gr h.ir (by decide)
  have n3 := heap_ne h.res h.ir (by decide)
  refine ⟨?_, ?_, ?_, ?_, h.ne, h.pb0, h.gi0, h.gg0, h.pr0, below_set h.bel h.gi0 h.bel.size⟩
  · rw [Below.heap_setCell W ⟨gi, j, none⟩ _ pb n1]; exact h.box
  · rw [heap_setCell h.ir j _]
    simp
  · rw [Below.heap_setCell W ⟨gi, j, none⟩ _ gg n2]; exact h.gr
  · rw [Below.heap_setCell W ⟨gi, j, none⟩ _ pr n3]; exact h.res
theorem FM.drew {n : Nat} {w W : World} {pr pb gi gg : Nat} {ins : List ByteArray} {gone : List Bool} (h : FM n w W pr pb gi gg ins gone) : FM n w W.drew pr pb gi gg ins gone :=
  ⟨h.box, h.ir, h.gr, h.res, h.ne, h.pb0, h.gi0, h.gg0, h.pr0, h.bel.drew⟩
end Go.Proofs.YtfhbkaiioiihjaaDoor
