/-
  What the reference's Formed does, in plain words; its memory.
-/
import Derived.Test.YtgabanndjiegdabDrH
import Derived.Deep.DeepCutAuto
import Derived.BigRegion
namespace Go.Proofs.Ytgabanndjiegdab
open Go.ChangeShapes Go.WideShapes Go.ChangeAt Go.RowKit Go.PlainAid

/-- What is kept and put in up to a gap, and in it. -/
def gapM (ins : List ByteArray) (gone : List Bool) (i : Nat) : List (Nat ⊕ Int) := mkU 0 (gapW ins gone i) ++ (pts (ins.getD i ⟨#[]⟩)).map .inr
theorem pts_nil : pts ⟨#[]⟩ = [] := rfl
theorem gapM_R {ins : List ByteArray} {gone : List Bool} {i : Nat} (h : gone.getD i false = true) (he : ins.getD (i + 1) ⟨#[]⟩ = ⟨#[]⟩) : gapM ins gone (i + 1) = gapM ins gone i := by
  rw [gapM, gapM, he, pts_nil, gapW, mkU_append, mkU_append, mkU_I, h]
  simp [mkU]
theorem gapM_K {ins : List ByteArray} {gone : List Bool} {i : Nat} (h : gone.getD i false = false) (he : ins.getD (i + 1) ⟨#[]⟩ = ⟨#[]⟩) : gapM ins gone (i + 1) = gapM ins gone i ++ [.inl i] := by
  rw [gapM, gapM, he, pts_nil, gapW, mkU_append, mkU_append, mkU_I, h, baseU_gap, baseU_I]
  simp [mkU]
theorem gapM_Rs {ins : List ByteArray} {gone : List Bool} {g : Nat} (he : ∀ j, g < j → ins.getD j ⟨#[]⟩ = ⟨#[]⟩) : ∀ m, (∀ j, g ≤ j → j < g + m → gone.getD j false = true) → gapM ins gone (g + m) = gapM ins gone g
  | 0, _ => rfl
  | m + 1, h => by
    rw [← Nat.add_assoc, gapM_R (h _ (by omega) (by omega)) (he _ (by omega)), gapM_Rs he m (fun j h1 h2 => h j h1 (by omega))]
theorem gapM_Ks {ins : List ByteArray} {gone : List Bool} {a : Nat} (he : ∀ j, a < j → ins.getD j ⟨#[]⟩ = ⟨#[]⟩) : ∀ m, (∀ j, a ≤ j → j < a + m → gone.getD j false = false) → gapM ins gone (a + m) = gapM ins gone a ++ (List.range m).map (fun j => .inl (a + j))
  | 0, _ => by simp
  | m + 1, h => by
    rw [← Nat.add_assoc, gapM_K (h _ (by omega) (by omega)) (he _ (by omega)), gapM_Ks he m (fun j h1 h2 => h j h1 (by omega)), List.range_succ]
    simp
theorem gapW_congr {ins ins' : List ByteArray} {gone gone' : List Bool} : ∀ i, (∀ j, j < i → ins'.getD j ⟨#[]⟩ = ins.getD j ⟨#[]⟩ ∧ gone'.getD j false = gone.getD j false) → gapW ins' gone' i = gapW ins gone i
  | 0, _ => rfl
  | i + 1, h => by
    rw [gapW, gapW, (h i (by omega)).1, (h i (by omega)).2, gapW_congr i (fun j hj => h j (by omega))]
theorem cat_ok {a t : ByteArray} (ha : 0 ≤ cpl a) (ht : 0 ≤ cpl t) : 0 ≤ cpl (mk (a.data.toList ++ t.data.toList)) ∧ pts (mk (a.data.toList ++ t.data.toList)) = pts a ++ pts t := by
  rw [ins_enc ha, ins_enc ht, ← enc_append]
  have h := cpl_enc (p := pts a ++ pts t) (fun z hz => by
    rcases List.mem_append.1 hz with h | h
    · exact pts_ok ha z h
    · exact pts_ok ht z h)
  exact ⟨by rw [h.1]; omega, h.2⟩

/-- What Formed has on its way. -/
structure FI (l : List St) (n k g : Nat) (ins : List ByteArray) (gone : List Bool) : Prop where
  li : ins.length = n + 1
  lg : gone.length = n
  ga : g ≤ bsum (l.take k)
  m : gapM ins gone g = mkU 0 (uw (l.take k))
  r : ∀ j, g ≤ j → j < bsum (l.take k) → gone.getD j false = true
  f : ∀ j, bsum (l.take k) ≤ j → gone.getD j false = false
  e : ∀ j, g < j → ins.getD j ⟨#[]⟩ = ⟨#[]⟩
  v : ∀ t ∈ ins, 0 ≤ cpl t ∧ t.size ≤ 4 * tsum (l.take k)

theorem take_uw {l : List St} {k : Nat} (h : k < l.length) : uw (l.take (k + 1)) = uw (l.take k) ++ (l[k]).u := by
  rw [List.take_succ_eq_append_getElem h, uw_append]; simp [uw]
theorem fi_start (l : List St) (n : Nat) : FI l n 0 0 (List.replicate (n + 1) ⟨#[]⟩) (List.replicate n false) := by
  have hi : ∀ j, (List.replicate (n + 1) (⟨#[]⟩ : ByteArray)).getD j ⟨#[]⟩ = ⟨#[]⟩ := fun j => by
    by_cases h : j < n + 1 <;> simp [List.getD, h]
  refine ⟨by simp, by simp, by simp, ?_, fun j _ h => by simp [bsum] at h, fun j _ => ?_, fun j _ => hi j, fun t ht => ?_⟩
  · rw [gapM, hi, pts_nil]; rfl
  · by_cases h : j < n <;> simp [List.getD, h]
  · have := List.eq_of_mem_replicate ht
    subst this
    exact ⟨by decide, by show 0 ≤ _; omega⟩
theorem fi_keep {l : List St} {n k g m : Nat} {ins : List ByteArray} {gone : List Bool} (h : FI l n k g ins gone) (hk : k < l.length) (hs : l[k] = .keep m) : FI l n (k + 1) (bsum (l.take k) + m) ins gone := by
  have hb := bsum_take l k hk
  have ht := tsum_take l k hk
  rw [hs] at hb ht
  simp only [St.b, St.c] at hb ht
  refine ⟨h.li, h.lg, by omega, ?_, fun j h1 h2 => by omega, fun j h1 => h.f j (by omega), fun j h1 => h.e j (by have := h.ga; omega), fun t ht' => ⟨(h.v t ht').1, by have := (h.v t ht').2; omega⟩⟩
  have e1 : gapM ins gone (bsum (l.take k)) = gapM ins gone g := by
    have := gapM_Rs (g := g) h.e (bsum (l.take k) - g) (fun j h1 h2 => h.r j h1 (by omega))
    rwa [show g + (bsum (l.take k) - g) = bsum (l.take k) by have := h.ga; omega] at this
  rw [gapM_Ks (fun j hj => h.e j (by have := h.ga; omega)) m (fun j h1 h2 => h.f j h1), e1, h.m, take_uw hk, hs, mkU_append, base_uw]
  simp only [St.u, mkU_K, Nat.zero_add]
theorem fi_rem {l : List St} {n k g m : Nat} {ins : List ByteArray} {gone gone' : List Bool} (h : FI l n k g ins gone) (hk : k < l.length) (hs : l[k] = .rem m) (hl : gone'.length = n)
    (h1 : ∀ j, j < bsum (l.take k) → gone'.getD j false = gone.getD j false) (h2 : ∀ j, bsum (l.take k) ≤ j → j < bsum (l.take k) + m → gone'.getD j false = true) (h3 : ∀ j, bsum (l.take k) + m ≤ j → gone'.getD j false = gone.getD j false) : FI l n (k + 1) g ins gone' := by
  have hb := bsum_take l k hk
  have ht := tsum_take l k hk
  rw [hs] at hb ht
  simp only [St.b, St.c] at hb ht
  have hga := h.ga
  refine ⟨h.li, hl, by omega, ?_, fun j q1 q2 => ?_, fun j q => ?_, h.e, fun t ht' => ⟨(h.v t ht').1, by have := (h.v t ht').2; omega⟩⟩
  · have e := gapW_congr (ins := ins) (ins' := ins) (gone := gone) (gone' := gone') g (fun j hj => ⟨rfl, h1 j (by omega)⟩)
    have hm := h.m
    rw [gapM] at hm ⊢
    rw [e, hm, take_uw hk, hs, mkU_append]
    simp only [St.u, mkU_R, List.append_nil]
  · by_cases hj : j < bsum (l.take k)
    · rw [h1 j hj]; exact h.r j q1 hj
    · exact h2 j (by omega) (by omega)
  · rw [h3 j (by omega)]; exact h.f j (by omega)
theorem fi_ins {l : List St} {n k g : Nat} {t : ByteArray} {ins : List ByteArray} {gone : List Bool} (h : FI l n k g ins gone) (hk : k < l.length) (hs : l[k] = .ins t) (ho : (St.ins t).Ok) (hgn : g ≤ n) :
    FI l n (k + 1) g (ins.set g (mk ((ins.getD g ⟨#[]⟩).data.toList ++ t.data.toList))) gone := by
  have hb := bsum_take l k hk
  have ht := tsum_take l k hk
  rw [hs] at hb ht
  simp only [St.b, St.c, St.Ok] at hb ht ho
  have hga := h.ga
  have hli := h.li
  have hin : ins.getD g ⟨#[]⟩ ∈ ins := by simp [show g < ins.length by omega]
  have hvg := h.v _ hin
  have hcat := cat_ok hvg.1 (t := t) (by omega)
  have hget : ∀ j, j ≠ g → (ins.set g (mk ((ins.getD g ⟨#[]⟩).data.toList ++ t.data.toList))).getD j ⟨#[]⟩ = ins.getD j ⟨#[]⟩ := fun j hj => by
    rw [List.getD_eq_getElem?_getD, List.getElem?_set_ne (fun e => hj e.symm), List.getD_eq_getElem?_getD]
  have hgg : (ins.set g (mk ((ins.getD g ⟨#[]⟩).data.toList ++ t.data.toList))).getD g ⟨#[]⟩ = mk ((ins.getD g ⟨#[]⟩).data.toList ++ t.data.toList) := by
    have : g < ins.length := by omega
    simp [List.getD, this]
  refine ⟨by rw [List.length_set]; exact hli, h.lg, by omega, ?_, fun j q1 q2 => h.r j q1 (by omega), fun j q => h.f j (by omega), fun j q => ?_, fun x hx => ?_⟩
  · have e := gapW_congr (ins := ins) (ins' := ins.set g (mk ((ins.getD g ⟨#[]⟩).data.toList ++ t.data.toList))) (gone := gone) (gone' := gone) g (fun j hj => ⟨hget j (by omega), rfl⟩)
    have hm := h.m
    rw [gapM] at hm ⊢
    rw [e, hgg, hcat.2, List.map_append, ← List.append_assoc, hm, take_uw hk, hs, mkU_append]
    simp only [St.u, mkU_I]
  · rw [hget j (by omega)]; exact h.e j q
  · rcases List.mem_or_eq_of_mem_set hx with hx | hx
    · have := h.v x hx; exact ⟨this.1, by omega⟩
    · subst hx
      refine ⟨hcat.1, ?_⟩
      have hs1 := hvg.2
      have hs2 := size_cpl ho.1
      rw [mk_size, List.length_append, data_len, data_len]
      omega
/-- The form's word does what the delta does. -/
theorem fi_end {l : List St} {n g : Nat} {ins : List ByteArray} {gone : List Bool} (h : FI l n l.length g ins gone) (hn : bsum l = n) : baseU (formW ins gone) = baseU (uw l) ∧ mkU 0 (formW ins gone) = mkU 0 (uw l) := by
  have hm := h.m
  have hr := h.r
  have hga := h.ga
  rw [List.take_length] at hm hr hga
  have e1 := gapM_Rs (g := g) h.e (n - g) (fun j h1 h2 => hr j h1 (by omega))
  rw [show g + (n - g) = n by omega] at e1
  refine ⟨?_, ?_⟩
  · rw [formW, baseU_append, baseU_gap, baseU_I, h.lg, base_uw, hn]; rfl
  · rw [formW, mkU_append, mkU_I, h.lg, ← hm, ← e1, gapM]

/-- A form on its way, in memory. -/
structure FM (n : Nat) (w W : World) (pr pb gi gg : Nat) (ins : List ByteArray) (gone : List Bool) : Prop where
  box : W.heap[pb]? = some (.cells #[.slice (some ⟨gi, 0, none⟩) (n + 1) (n + 1), .slice (some ⟨gg, 0, none⟩) n n] 69)
  ir : W.heap[gi]? = some (.cells (ins.map Value.string).toArray 9)
  gr : W.heap[gg]? = some (.cells (gone.map Value.bool).toArray 4)
  res : W.heap[pr]? = some (.cells #[.slice none 0 0, .slice none 0 0] 69)
  ne : pr ≠ pb
  pb0 : w.heap.size ≤ pb
  gi0 : w.heap.size ≤ gi
  gg0 : w.heap.size ≤ gg
  pr0 : w.heap.size ≤ pr
  bel : Below w.heap.size w W

theorem heap_ne {W : World} {p q : Nat} {c d : Array Value} {s t : TypeId} (h : W.heap[p]? = some (.cells c s)) (k : W.heap[q]? = some (.cells d t)) (hne : s ≠ t) : p ≠ q := fun e => by
  subst e
  rw [h] at k
  simp at k
  exact hne k.2
theorem FM.setG {n : Nat} {w W : World} {pr pb gi gg : Nat} {ins : List ByteArray} {gone : List Bool} (h : FM n w W pr pb gi gg ins gone) (j : Nat) : FM n w (W.setCell ⟨gg, j, none⟩ (.bool true)) pr pb gi gg ins (gone.set j true) := by
  have n1 := heap_ne h.box h.gr (by decide)
  have n2 := heap_ne h.ir h.gr (by decide)
  have n3 := heap_ne h.res h.gr (by decide)
  refine ⟨?_, ?_, ?_, ?_, h.ne, h.pb0, h.gi0, h.gg0, h.pr0, below_set h.bel h.gg0 h.bel.size⟩
  · rw [Below.heap_setCell W ⟨gg, j, none⟩ _ pb n1]; exact h.box
  · rw [Below.heap_setCell W ⟨gg, j, none⟩ _ gi n2]; exact h.ir
  · rw [heap_setCell h.gr j _]
    simp
  · rw [Below.heap_setCell W ⟨gg, j, none⟩ _ pr n3]; exact h.res
theorem FM.setI {n : Nat} {w W : World} {pr pb gi gg : Nat} {ins : List ByteArray} {gone : List Bool} (h : FM n w W pr pb gi gg ins gone) (j : Nat) (t : ByteArray) : FM n w (W.setCell ⟨gi, j, none⟩ (.string t)) pr pb gi gg (ins.set j t) gone := by
  have n1 := heap_ne h.box h.ir (by decide)
  have n2 := heap_ne h.gr h.ir (by decide)
  have n3 := heap_ne h.res h.ir (by decide)
  refine ⟨?_, ?_, ?_, ?_, h.ne, h.pb0, h.gi0, h.gg0, h.pr0, below_set h.bel h.gi0 h.bel.size⟩
  · rw [Below.heap_setCell W ⟨gi, j, none⟩ _ pb n1]; exact h.box
  · rw [heap_setCell h.ir j _]
    simp
  · rw [Below.heap_setCell W ⟨gi, j, none⟩ _ gg n2]; exact h.gr
  · rw [Below.heap_setCell W ⟨gi, j, none⟩ _ pr n3]; exact h.res
theorem FM.drew {n : Nat} {w W : World} {pr pb gi gg : Nat} {ins : List ByteArray} {gone : List Bool} (h : FM n w W pr pb gi gg ins gone) : FM n w W.drew pr pb gi gg ins gone :=
  ⟨h.box, h.ir, h.gr, h.res, h.ne, h.pb0, h.gi0, h.gg0, h.pr0, h.bel.drew⟩
end Go.Proofs.Ytgabanndjiegdab

/-
  The walk of the reference's Formed; Normal.
-/
namespace Go.Proofs.Ytgabanndjiegdab
open Go.ChangeShapes Go.WideShapes Go.ChangeAt Go.RowKit Go.PlainAid

theorem Try.infoStr : (Try.prog.info? 9).map (fun i => (i.zero, i.size, i.bytes)) = some (some (.string ⟨#[]⟩), 1, 16) := by kernel_rfl
theorem Try.infoBoo : (Try.prog.info? 4).map (fun i => (i.zero, i.size, i.bytes)) = some (some (.bool false), 1, 1) := by kernel_rfl
set_option maxRecDepth 20000 in
theorem make_str (n : Nat) (hn : n ≤ 1001) (W : World) : (Instr.makeSlice 66 (.int .i64 (n : Int)) (.int .i64 (n : Int))).run Try.prog W = .ok (.slice (some ⟨W.heap.size, 0, none⟩) n n) (W.alloc (.cells ((List.replicate n (⟨#[]⟩ : ByteArray)).map Value.string).toArray 9)) := by
  obtain ⟨i0, hi, hz0, hz1, hz2⟩ := info_parts Try.infoStr
  have h := run_make (P := Try.prog) W 66 9 i0 (.string ⟨#[]⟩) Try.underlying66 hi hz0 .i64 .i64 (n : Int) (n : Int) (by omega) (by omega) (by rw [hz2]; omega) (by omega)
  rw [h, hz1]
  simp only [Int.toNat_natCast, Nat.mul_one]
  congr 3
  apply Array.ext'
  rw [show (Value.string (⟨#[]⟩ : ByteArray)).cells = #[.string ⟨#[]⟩] from rfl, toList_madeCells_one]
  simp
set_option maxRecDepth 20000 in
theorem make_boo (n : Nat) (hn : n ≤ 1001) (W : World) : (Instr.makeSlice 67 (.int .i64 (n : Int)) (.int .i64 (n : Int))).run Try.prog W = .ok (.slice (some ⟨W.heap.size, 0, none⟩) n n) (W.alloc (.cells ((List.replicate n false).map Value.bool).toArray 4)) := by
  obtain ⟨i0, hi, hz0, hz1, hz2⟩ := info_parts Try.infoBoo
  have h := run_make (P := Try.prog) W 67 4 i0 (.bool false) Try.underlying67 hi hz0 .i64 .i64 (n : Int) (n : Int) (by omega) (by omega) (by rw [hz2]; omega) (by omega)
  rw [h, hz1]
  simp only [Int.toNat_natCast, Nat.mul_one]
  congr 3
  apply Array.ext'
  rw [show (Value.bool false).cells = #[.bool false] from rfl, toList_madeCells_one]
  simp

section
variable (u : World) (a b c : Obj)
theorem al2 : (((u.alloc a).alloc b).alloc c).drew.heap[u.heap.size + 1 + 1]? = some c := by
  have := heap_alloc_new ((u.alloc a).alloc b) c
  rw [World.size_alloc, World.size_alloc] at this
  exact this
theorem al1 : (((u.alloc a).alloc b).alloc c).drew.heap[u.heap.size + 1]? = some b := by
  have h1 := heap_alloc_new (u.alloc a) b
  have h2 := Below.heap_alloc ((u.alloc a).alloc b) c (u.alloc a).heap.size (by simp)
  have := h2.trans h1
  rw [World.size_alloc] at this
  exact this
theorem al0 : (((u.alloc a).alloc b).alloc c).drew.heap[u.heap.size]? = some a := by
  have h1 := heap_alloc_new u a
  have h2 := Below.heap_alloc (u.alloc a) b u.heap.size (by simp)
  have h3 := Below.heap_alloc ((u.alloc a).alloc b) c u.heap.size (by simp; omega)
  exact h3.trans (h2.trans h1)
theorem alb : Below u.heap.size u (((u.alloc a).alloc b).alloc c).drew := ((((Below.refl _ u).alloc (Nat.le_refl _) a).alloc (by simp) b).alloc (by simp; omega) c).drew
theorem alr (k : Nat) (hk : k < u.heap.size) : (((u.alloc a).alloc b).alloc c).drew.heap[k]? = u.heap[k]? := (alb u a b c).block k hk
end
theorem fm_mk {n : Nat} {w W : World} {pr pb gi gg : Nat} (h1 : W.heap[pb]? = some (.cells #[.slice (some ⟨gi, 0, none⟩) (n + 1) (n + 1), .slice (some ⟨gg, 0, none⟩) n n] 69))
    (h2 : W.heap[gi]? = some (.cells (Array.replicate (n + 1) (Value.string ⟨#[]⟩)) 9)) (h3 : W.heap[gg]? = some (.cells (Array.replicate n (Value.bool false)) 4)) (h4 : W.heap[pr]? = some (.cells #[.slice none 0 0, .slice none 0 0] 69))
    (h5 : pr ≠ pb) (h6 : w.heap.size ≤ pb) (h7 : w.heap.size ≤ gi) (h8 : w.heap.size ≤ gg) (h9 : w.heap.size ≤ pr) (h10 : Below w.heap.size w W) : FM n w W pr pb gi gg (List.replicate (n + 1) ⟨#[]⟩) (List.replicate n false) :=
  ⟨h1, by rw [h2]; simp, by rw [h3]; simp, h4, h5, h6, h7, h8, h9, h10⟩

section
variable {n : Nat} {w W : World} {pr pb gi gg : Nat} {ins : List ByteArray} {gone : List Bool}
theorem fm_c0 (h : FM n w W pr pb gi gg ins gone) : W.cell? ⟨pb, 0, none⟩ = some (.slice (some ⟨gi, 0, none⟩) (n + 1) (n + 1)) := cell_of_row _ _ 0 _ _ (0, 0) h.box
theorem fm_c1 (h : FM n w W pr pb gi gg ins gone) : W.cell? ⟨pb, 1, none⟩ = some (.slice (some ⟨gg, 0, none⟩) n n) := cell_of_row _ _ 1 _ _ (0, 0) h.box
theorem fm_cg (h : FM n w W pr pb gi gg ins gone) (j : Nat) (hj : j < gone.length) : W.cell? ⟨gg, j, none⟩ = some (.bool (gone.getD j false)) := by
  rw [cell_of_row _ _ j _ _ (0, 0) h.gr]
  simp [hj]
theorem fm_ci (h : FM n w W pr pb gi gg ins gone) (j : Nat) (hj : j < ins.length) : W.cell? ⟨gi, j, none⟩ = some (.string (ins.getD j ⟨#[]⟩)) := by
  rw [cell_of_row _ _ j _ _ (0, 0) h.ir]
  simp [hj]
theorem fm_zg (h : FM n w W pr pb gi gg ins gone) (j : Nat) : W.frozen? ⟨gg, j, none⟩ = false := frz h.gr j
theorem fm_zi (h : FM n w W pr pb gi gg ins gone) (j : Nat) : W.frozen? ⟨gi, j, none⟩ = false := frz h.ir j
end

theorem rdv_row {W : World} {g m c : Nat} {xs : List Value} {t : TypeId} (h : W.heap[g]? = some (.cells xs.toArray t)) (hm : xs.length = m) : RdV W (.slice (some ⟨g, 0, none⟩) m c) xs := by
  subst hm
  refine ⟨_, _, rfl, fun i x hx => ⟨g, 0, rfl, heap_lt h, ?_⟩⟩
  rw [Nat.zero_add, cell_of_row _ _ i _ _ (0, 0) h]
  simpa using hx
theorem Try.sizeFo : (Try.prog.info? 69).map (·.size) = some 2 := by kernel_rfl

/-- A stretch of true. -/
def setT (gone : List Bool) (B : Nat) : Nat → List Bool
  | 0 => gone
  | j + 1 => (setT gone B j).set (B + j) true
theorem setT_len (gone : List Bool) (B : Nat) : ∀ j, (setT gone B j).length = gone.length
  | 0 => rfl
  | j + 1 => by rw [setT, List.length_set, setT_len gone B j]
theorem setT_get (gone : List Bool) (B : Nat) : ∀ j x, B + j ≤ gone.length → (setT gone B j).getD x false = if B ≤ x ∧ x < B + j then true else gone.getD x false
  | 0, x, _ => by rw [setT, if_neg (by omega)]
  | j + 1, x, h => by
    have ih := setT_get gone B j x (by omega)
    rw [setT]
    by_cases e : x = B + j
    · subst e
      rw [if_pos (by omega), List.getD_eq_getElem?_getD, List.getElem?_set_self (by rw [setT_len]; omega)]
      rfl
    · rw [List.getD_eq_getElem?_getD, List.getElem?_set_ne (fun q => e q.symm), ← List.getD_eq_getElem?_getD, ih]
      by_cases h1 : B ≤ x ∧ x < B + j
      · rw [if_pos h1, if_pos (by omega)]
      · rw [if_neg h1, if_neg (by omega)]

set_option maxRecDepth 20000 in
set_option maxHeartbeats 2000000 in
theorem formed_any (v : Value) (ds : List OpD) (w : World) (hr : RdD w v ds) (hm : ds.length ≤ maxLen) (hi : ∀ o ∈ ds, o.Sm) (hc0 : chk ds = 0) :
    Calls Try.prog 32 #[v] w fun e w' => ∃ vi vg ins gone g, e = .returned (.agg #[vi, vg]) ∧ RdV w' vi (ins.map Value.string) ∧ RdV w' vg (gone.map Value.bool) ∧ FI (stR ds) (bsum (stR ds)) (stR ds).length g ins gone ∧ Below w.heap.size w w' := by
  have hB := fun W h => refBase_any v ds W h hm hi
  have hbd := stR_bd ds
  have hln := stR_len ds
  have hds := stR_op hc0
  have hok := stR_ok (fun o ho => sm_in (hi o ho))
  rw [hc0] at hB
  generalize stR ds = l at *
  obtain ⟨n, hn⟩ : ∃ n, bsum l = n := ⟨_, rfl⟩
  rw [hn] at hB hbd ⊢
  have hn1 : (n : Int) ≤ 1000 := by omega
  have hr0 := hr
  subst hds
  obtain ⟨ao, cp, rfl, _, hc⟩ := hr
  rw [List.length_map] at *
  have hmk1 := make_str (n + 1) (by omega)
  have hmk2 := make_boo n (by omega)
  have e1 : ((n + 1 : Nat) : Int) = (n : Int) + 1 := by omega
  rw [e1] at hmk1
  clear hi hc0 e1
  go_enter Try.func32, Try.ntmps32
  go_wp2_with fail
  refine (hB _ (hr0.below ((Below.refl _ w).alloc (Nat.le_refl _) _))).mono ?_
  rintro e w1 ⟨rfl, hb1⟩
  have hrs : w1.heap[w.heap.size]? = some (.cells #[.slice none 0 0, .slice none 0 0] 69) := (hb1.block w.heap.size (by simp)).trans (heap_alloc_new w _)
  have hB1 : Below w.heap.size w w1 := ((Below.refl _ w).alloc (Nat.le_refl _) _).trans (hb1.mono (by simp))
  have hs1 : w.heap.size + 1 ≤ w1.heap.size := by have := hb1.size; simpa using this
  clear hb1 hB hr0
  go_upto_region 2 with fail
  go_cut [5] (fun p wx => ∃ pb gi gg, p = .pointer (some ⟨pb, 0, none⟩) ∧ FM n w wx w.heap.size pb gi gg (List.replicate (n + 1) ⟨#[]⟩) (List.replicate n false))
  case first =>
    go_region
    all_goals
      go_wp2_with fail
      go_meet
    all_goals first
      | exact ⟨w1.heap.size, w1.heap.size + 1, w1.heap.size + 1 + 1, rfl, fm_mk (al0 w1 _ _ _) (al1 w1 _ _ _) (al2 w1 _ _ _) ((alr w1 _ _ _ _ (by omega)).trans hrs) (by omega) (by omega) (by omega) (by omega) (Nat.le_refl _) (hB1.trans ((alb w1 _ _ _).mono (by omega)))⟩
      | exact ⟨w1.heap.size, w1.heap.size + 1 + 1, w1.heap.size + 1, rfl, fm_mk (al0 w1 _ _ _) (al2 w1 _ _ _) (al1 w1 _ _ _) ((alr w1 _ _ _ _ (by omega)).trans hrs) (by omega) (by omega) (by omega) (by omega) (Nat.le_refl _) (hB1.trans ((alb w1 _ _ _).mono (by omega)))⟩
      | exact ⟨w1.heap.size + 1, w1.heap.size, w1.heap.size + 1 + 1, rfl, fm_mk (al1 w1 _ _ _) (al0 w1 _ _ _) (al2 w1 _ _ _) ((alr w1 _ _ _ _ (by omega)).trans hrs) (by omega) (by omega) (by omega) (by omega) (Nat.le_refl _) (hB1.trans ((alb w1 _ _ _).mono (by omega)))⟩
      | exact ⟨w1.heap.size + 1, w1.heap.size + 1 + 1, w1.heap.size, rfl, fm_mk (al1 w1 _ _ _) (al2 w1 _ _ _) (al0 w1 _ _ _) ((alr w1 _ _ _ _ (by omega)).trans hrs) (by omega) (by omega) (by omega) (by omega) (Nat.le_refl _) (hB1.trans ((alb w1 _ _ _).mono (by omega)))⟩
      | exact ⟨w1.heap.size + 1 + 1, w1.heap.size, w1.heap.size + 1, rfl, fm_mk (al2 w1 _ _ _) (al0 w1 _ _ _) (al1 w1 _ _ _) ((alr w1 _ _ _ _ (by omega)).trans hrs) (by omega) (by omega) (by omega) (by omega) (Nat.le_refl _) (hB1.trans ((alb w1 _ _ _).mono (by omega)))⟩
      | exact ⟨w1.heap.size + 1 + 1, w1.heap.size + 1, w1.heap.size, rfl, fm_mk (al2 w1 _ _ _) (al1 w1 _ _ _) (al0 w1 _ _ _) ((alr w1 _ _ _ _ (by omega)).trans hrs) (by omega) (by omega) (by omega) (by omega) (Nat.le_refl _) (hB1.trans ((alb w1 _ _ _).mono (by omega)))⟩
  case rest =>
    obtain ⟨pb, gi, gg, rfl, hF⟩ := hcut
    have hfi := fi_start l n
    clear hmk1 hmk2 hrs hB1 hs1
    go_wp2_with fail
    go_loopw [6, 7, 8] (fun a q i wr => ∃ (k g : Nat) (ins : List ByteArray) (gone : List Bool), k ≤ l.length ∧ i = .int .i64 (k : Int) ∧ a = .int .i64 (bsum (l.take k) : Int) ∧ q = .int .i64 (g : Int) ∧ FM n w wr w.heap.size pb gi gg ins gone ∧ FI l n k g ins gone) (fun _ _ i _ => l.length - (intOf i).toNat)
    case atStart => exact ⟨0, 0, _, _, by omega, rfl, rfl, rfl, hF, hfi⟩
    case round =>
      obtain ⟨k, g, ins, gone, hk, rfl, rfl, rfl, hFM, hFI⟩ := hrel
      clear hF hfi
      have hst := sum_take l k
      have hga := hFI.ga
      have hli := hFI.li
      have hlg := hFI.lg
      by_cases hlt : k < l.length
      · have hlt' : (k : Int) < (l.length : Int) := by omega
        have hsk := hok l[k] (List.getElem_mem hlt)
        have hbt := bsum_take l k hlt
        have hst2 := sum_take l (k + 1)
        obtain ⟨b, off, rfl, hbb, c0, c1, c2⟩ := hc k (l[k]).op (by simp [hlt])
        have hBc : ∀ {W : World} o, Below w.heap.size w W → W.cell? ⟨b, o, none⟩ = w.cell? ⟨b, o, none⟩ := fun o h => h.cell (p := ⟨b, o, none⟩) hbb
        have e0 := c0
        have e1 := c1
        have e2 := c2
        rw [← hBc _ hFM.bel] at c0 c1 c2
        clear hc
        obtain ⟨st, hst0⟩ : ∃ st, st = l[k] := ⟨_, rfl⟩
        rw [← hst0] at hsk hbt c0 c1 c2 e0 e1 e2
        have b1 : (bsum (l.take k) : Int) ≤ 1000 := by omega
        cases st with
        | keep m =>
          simp only [St.op, St.Ok, St.b] at c0 c1 c2 hsk hbt
          have R := fi_keep hFI hlt hst0.symm
          have m1 : (m : Int) ≤ 1000 := by omega
          have HB : Hid (bsum (l.take (k + 1)) = bsum (l.take k) + m) := hbt
          clear hFI hst hst2 hbt hst0 e0 e1 e2 hBc hga hli hlg hsk
          generalize bsum (l.take k) = B at *
          go_wp2_with fail
          go_roundw
          case rel => exact ⟨k + 1, B + m, ins, gone, by omega, by go_num, by rw [HB.out]; go_num, by go_num, hFM, R⟩
          case measure => simp [intOf]; omega
        | rem m =>
          simp only [St.op, St.Ok, St.b] at c0 c1 c2 hsk hbt e0 e1 e2
          have R := fi_rem (gone' := setT gone (bsum (l.take k)) m) hFI hlt hst0.symm (by rw [setT_len]; exact hlg) (fun j hj => by rw [setT_get _ _ _ _ (by omega), if_neg (by omega)]) (fun j h1 h2 => by rw [setT_get _ _ _ _ (by omega), if_pos (by omega)]) (fun j hj => by rw [setT_get _ _ _ _ (by omega), if_neg (by omega)])
          have m1 : (m : Int) ≤ 1000 := by omega
          have HB : Hid (bsum (l.take (k + 1)) = bsum (l.take k) + m) := hbt
          have hBn : bsum (l.take k) + m ≤ n := by omega
          clear hFI hst hst2 hbt hst0 hga hli hsk
          generalize bsum (l.take k) = B at *
          go_wp2_with fail
          go_loopw [6, 9] (fun a q w2 => ∃ j : Nat, j ≤ m ∧ q = .int .i64 (j : Int) ∧ a = .int .i64 ((B + j : Nat) : Int) ∧ FM n w w2 w.heap.size pb gi gg ins (setT gone B j)) (fun _ q _ => m - (intOf q).toNat)
          case atStart => exact ⟨0, by omega, rfl, rfl, hFM⟩
          case round =>
            obtain ⟨j, hj, rfl, rfl, hF2⟩ := hrel
            clear hFM c0 c1 c2
            have c1 := (hBc _ hF2.bel).trans e1
            have q1 := fm_c1 hF2
            by_cases hjm : j < m
            · have hjm' : (j : Int) < (m : Int) := by omega
              have cg := fm_cg hF2 (B + j) (by rw [setT_len]; omega)
              have zg := fm_zg hF2 (B + j)
              have R2 := hF2.setG (B + j)
              have e3 : ((B + j : Nat) : Int) = (B : Int) + (j : Int) := by omega
              rw [e3]
              have hi1 : (B : Int) + (j : Int) < (n : Int) := by omega
              have HS : Hid (setT gone B (j + 1) = (setT gone B j).set (B + j) true) := rfl
              clear hF2 hBc e0 e1 e2 e3 R
              go_wp2_with fail
              go_roundw
              case rel => exact ⟨j + 1, by omega, by go_num, by go_num, R2⟩
              case measure => simp [intOf]; omega
            · obtain rfl : j = m := by omega
              have e3 : ((B + j : Nat) : Int) = (B : Int) + (j : Int) := by omega
              clear hBc e0 e1 e2
              go_wp2_with fail
              go_roundw
              case rel => exact ⟨k + 1, g, ins, setT gone B j, by omega, by go_num, by rw [HB.out], rfl, hF2, R⟩
              case measure => simp [intOf]; omega
        | ins t =>
          simp only [St.op, St.Ok, St.b] at c0 c1 c2 hsk hbt
          have R := fi_ins hFI hlt hst0.symm hsk (by omega)
          have hgn : g < ins.length := by omega
          have hvg := (hFI.v (ins.getD g ⟨#[]⟩) (by simp [hgn])).2
          have hts : t.size ≤ 4000 := by
            have h1 := size_cpl hsk.1
            have h2 := tsum_take l k hlt
            rw [← hst0] at h2
            simp only [St.c] at h2
            omega
          have HB : Hid (bsum (l.take (k + 1)) = bsum (l.take k)) := by show _ = _; omega
          have RM := (hFM.drew).setI g (mk ((ins.getD g ⟨#[]⟩).data.toList ++ t.data.toList))
          have ci := fm_ci hFM g hgn
          have zi := fm_zi hFM g
          have q0 := fm_c0 hFM
          have d1 := data_len (ins.getD g ⟨#[]⟩)
          have d2 := data_len t
          have ha := fun W => pk.add_mk (ins.getD g ⟨#[]⟩).data.toList t.data.toList W (by omega)
          rw [mk_data, mk_data] at ha
          have g1 : (g : Int) < (n : Int) + 1 := by omega
          have g2 : (0 : Int) ≤ (g : Int) := by omega
          have hwg : IntKind.i64.wrap (g : Int) = (g : Int) := wraps_i64 _ (by omega) (by omega)
          clear hFI hst hst2 hbt hst0 e0 e1 e2 hBc hga hli hlg hsk hvg hts d1 d2 hgn
          generalize bsum (l.take k) = B at *
          generalize mk ((ins.getD g ⟨#[]⟩).data.toList ++ t.data.toList) = T at *
          generalize ins.getD g ⟨#[]⟩ = S at *
          go_wp2_with fail
          refine region_tailR 15 Try.mixedR (by kernel_rfl) ?_
          simp only [List.take_succ_cons, List.take_zero, List.drop_succ_cons, List.drop_zero]
          iterate 15 still_step
          refine wpStill_nil ?_
          go_wp2_with fail
          go_roundw
          case rel => exact ⟨k + 1, g, _, gone, by omega, by go_num, by rw [HB.out], rfl, RM, R⟩
          case measure => simp [intOf]; omega
      · have e : k = l.length := by omega
        subst e
        have q0 := fm_c0 hFM
        have q1 := fm_c1 hFM
        have r0 := cell_of_row _ _ 0 _ _ (0, 0) hFM.res
        have r1 := cell_of_row _ _ 1 _ _ (0, 0) hFM.res
        have z0 := frz hFM.res 0
        have z1 := frz hFM.res 1
        simp at r0 r1
        clear hc hok
        have x0 := heap_setCell hFM.res 0 (.slice (some ⟨gi, 0, none⟩) (n + 1) (n + 1))
        have x1 := heap_setCell x0 1 (.slice (some ⟨gg, 0, none⟩) n n)
        have n1 := heap_ne hFM.ir hFM.res (by decide)
        have n2 := heap_ne hFM.gr hFM.res (by decide)
        have y1 : ((wr.setCell ⟨w.heap.size, 0, none⟩ (.slice (some ⟨gi, 0, none⟩) (n + 1) (n + 1))).setCell ⟨w.heap.size, 1, none⟩ (.slice (some ⟨gg, 0, none⟩) n n)).heap[gi]? = some (.cells (ins.map Value.string).toArray 9) := by
          rw [Below.heap_setCell _ ⟨w.heap.size, 1, none⟩ _ gi n1, Below.heap_setCell _ ⟨w.heap.size, 0, none⟩ _ gi n1]; exact hFM.ir
        have y2 : ((wr.setCell ⟨w.heap.size, 0, none⟩ (.slice (some ⟨gi, 0, none⟩) (n + 1) (n + 1))).setCell ⟨w.heap.size, 1, none⟩ (.slice (some ⟨gg, 0, none⟩) n n)).heap[gg]? = some (.cells (gone.map Value.bool).toArray 4) := by
          rw [Below.heap_setCell _ ⟨w.heap.size, 1, none⟩ _ gg n2, Below.heap_setCell _ ⟨w.heap.size, 0, none⟩ _ gg n2]; exact hFM.gr
        have y3 : Below w.heap.size w ((wr.setCell ⟨w.heap.size, 0, none⟩ (.slice (some ⟨gi, 0, none⟩) (n + 1) (n + 1))).setCell ⟨w.heap.size, 1, none⟩ (.slice (some ⟨gg, 0, none⟩) n n)) :=
          below_set (below_set hFM.bel (Nat.le_refl _) hFM.bel.size) (Nat.le_refl _) (Nat.le_trans hFM.bel.size (grown_set wr _ 0 _).size)
        have l1 : (ins.map Value.string).length = n + 1 := by rw [List.length_map]; exact hli
        have l2 : (gone.map Value.bool).length = n := by rw [List.length_map]; exact hlg
        have HY : Hid (RdV _ (.slice (some ⟨gi, 0, none⟩) (n + 1) (n + 1)) (ins.map Value.string) ∧ RdV _ (.slice (some ⟨gg, 0, none⟩) n n) (gone.map Value.bool) ∧ Below w.heap.size w _) := ⟨rdv_row y1 l1, rdv_row y2 l2, y3⟩
        clear y1 y2 y3 l1 l2 n1 n2 x0
        go_wp2_with fail
        refine bodyPost_ret (results_cell_row rfl _ _ w.heap.size 69 _ (0, 0) _ rfl x1 Try.underlying69 rfl Try.sizeFo) rfl ?_
        exact ⟨_, _, ins, gone, g, rfl, HY.out.1, HY.out.2.1, hFI, HY.out.2.2⟩

end Go.Proofs.Ytgabanndjiegdab
