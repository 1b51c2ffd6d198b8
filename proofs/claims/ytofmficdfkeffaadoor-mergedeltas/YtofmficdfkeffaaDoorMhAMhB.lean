/-
  The form that the reference's Delta writes is the delta's word. No walk.
-/
import Derived.Test.YtofmficdfkeffaaDoorMgUMgWMgXMgYMgZ
import Derived.Test.YtofmficdfkeffaaDoorDrFDrGDrHDrI
import Derived.Deep.Slices
import Derived.Deep.RegionWith
namespace Go.Proofs.YtofmficdfkeffaaDoor
open Go.ChangeShapes Go.WideShapes Go.ChangeAt Go.RowKit Go.PlainAid

/-- A form's word, from its beginning on. -/
def twL : List ByteArray → List Bool → List U
  | _, [] => []
  | I, b :: H => (if b then U.R else U.K) :: (match I with | [] => [] | t :: I => (pts t).map .I ++ twL I H)
theorem twL_cons (t : ByteArray) (I : List ByteArray) (b : Bool) (H : List Bool) : twL (t :: I) (b :: H) = (if b then U.R else U.K) :: ((pts t).map .I ++ twL I H) := by rw [twL]
theorem gapW_cons (t : ByteArray) (I : List ByteArray) (b : Bool) (H : List Bool) : ∀ i, gapW (t :: I) (b :: H) (i + 1) = (pts t).map .I ++ ((if b then U.R else U.K) :: gapW I H i)
  | 0 => by simp [gapW]
  | i + 1 => by
    rw [gapW, gapW_cons t I b H i, gapW]
    simp
theorem formW_cons (t : ByteArray) (I : List ByteArray) (b : Bool) (H : List Bool) : formW (t :: I) (b :: H) = (pts t).map .I ++ ((if b then U.R else U.K) :: formW I H) := by
  unfold formW
  rw [List.length_cons, gapW_cons]
  simp
theorem formW_tw : ∀ (H : List Bool) (t : ByteArray) (I : List ByteArray), I.length = H.length → formW (t :: I) H = (pts t).map .I ++ twL I H
  | [], t, I, _ => by simp [formW, gapW, twL]
  | b :: H, t, [], h => by simp at h
  | b :: H, t, s :: I, h => by
    rw [formW_cons, formW_tw H s I (by simpa using h), twL_cons]

/-- What stands in the gaps of a form. -/
def insL : List (List Atm) → List (List Atm) → List ByteArray
  | g :: G, p :: P => mk (txU p) :: (List.replicate g.length ⟨#[]⟩ ++ insL G P)
  | _, _ => []
def gonL : List (List Atm) → List Bool
  | g :: G => false :: (List.replicate g.length true ++ gonL G)
  | [] => []
theorem twL_rep (I : List ByteArray) (H : List Bool) : ∀ n : Nat, twL (List.replicate n ⟨#[]⟩ ++ I) (List.replicate n true ++ H) = List.replicate n .R ++ twL I H
  | 0 => rfl
  | n + 1 => by
    rw [List.replicate_succ, List.cons_append, List.replicate_succ, List.cons_append, twL_cons, twL_rep I H n, pts_nil, List.replicate_succ]
    rfl
theorem pts_txU {p : List Atm} (hz : ∀ x ∈ p, szI x.z ≠ 0) : pts (mk (txU p)) = p.map Atm.z := by
  unfold txU
  exact (cpl_enc (fun z h => by obtain ⟨x, hx, rfl⟩ := List.mem_map.1 h; exact hz x hx)).2
theorem twL_gaps : ∀ (G P : List (List Atm)), G.length = P.length → (∀ p ∈ P, ∀ x ∈ p, szI x.z ≠ 0) → twL (insL G P) (gonL G) = wdG G P
  | [], [], _, _ => rfl
  | [], _ :: _, h, _ => by simp at h
  | _ :: _, [], h, _ => by simp at h
  | g :: G, p :: P, h, hz => by
    rw [insL, gonL, twL_cons, twL_rep, twL_gaps G P (by simpa using h) (fun q hq => hz q (List.mem_cons_of_mem _ hq)), pts_txU (hz p (List.mem_cons_self ..)), wdG, wdA]
    simp
theorem insL_len : ∀ (G P : List (List Atm)), G.length = P.length → (insL G P).length = (gonL G).length
  | [], [], _ => rfl
  | [], _ :: _, h => by simp at h
  | _ :: _, [], h => by simp at h
  | g :: G, p :: P, h => by
    rw [insL, gonL]
    simp [insL_len G P (by simpa using h)]
theorem form_gaps (g p : List Atm) (G P : List (List Atm)) (h : G.length = P.length) (hz : ∀ q ∈ p :: P, ∀ x ∈ q, szI x.z ≠ 0) :
    formW (mk (txU p) :: (List.replicate g.length ⟨#[]⟩ ++ insL G P)) (List.replicate g.length true ++ gonL G) = wdA g p ++ wdG G P := by
  rw [formW_tw _ _ _ (by simp [insL_len G P h]), twL_rep, twL_gaps G P h (fun q hq => hz q (List.mem_cons_of_mem _ hq)), pts_txU (hz p (List.mem_cons_self ..)), wdA]
  simp

/-- What the second loop writes. -/
def insG (A : List Atm) : Nat → List ByteArray → List Atm → List ByteArray
  | _, ins, [] => ins
  | a, ins, x :: l => match plK A x.key with
    | some k => insG A (k + 1) ins l
    | none => insG A a (ins.set a (mk ((ins.getD a ⟨#[]⟩).data.toList ++ (mk (ptB x.z.toNat)).data.toList))) l
theorem insG_put {A : List Atm} : ∀ (p : List Atm) (D : List ByteArray) (t : ByteArray) (R : List ByteArray) (l : List Atm), (∀ x ∈ p, plK A x.key = none) →
    insG A D.length (D ++ t :: R) (p ++ l) = insG A D.length (D ++ mk (t.data.toList ++ txU p) :: R) l
  | [], D, t, R, l, _ => by
    have : mk (t.data.toList ++ txU []) = t := by simp [txU, enc, mk]
    rw [this]; rfl
  | x :: p, D, t, R, l, h => by
    rw [List.cons_append, insG, h x (List.mem_cons_self ..)]
    simp only
    have e1 : (D ++ t :: R).getD D.length ⟨#[]⟩ = t := by simp
    have e2 : ∀ s, (D ++ t :: R).set D.length s = D ++ s :: R := fun s => by simp
    rw [e1, e2, insG_put p D _ R l (fun y hy => h y (List.mem_cons_of_mem _ hy))]
    congr 4
    simp [txU, enc, mk]
theorem plK_mid {X Y : List Atm} {s : Atm} (hn : (kL (X ++ s :: Y)).Nodup) : plK (X ++ s :: Y) s.key = some X.length := by
  rw [plK_some hn]
  simp [kL]
theorem insG_run : ∀ (G P : List (List Atm)) (S A0 g p : List Atm) (D : List ByteArray), G.length = S.length → P.length = S.length → D.length = A0.length →
    (kL (A0 ++ (g ++ tlA G S))).Nodup → (∀ q ∈ p :: P, ∀ x ∈ q, plK (A0 ++ (g ++ tlA G S)) x.key = none) →
    insG (A0 ++ (g ++ tlA G S)) D.length (D ++ List.replicate ((g ++ tlA G S).length + 1) ⟨#[]⟩) (p ++ tlA P S) = D ++ (mk (txU p) :: (List.replicate g.length ⟨#[]⟩ ++ insL G P))
  | [], [], [], A0, g, p, D, _, _, hd, hn, hp => by
    rw [List.replicate_succ, insG_put p D _ _ _ (hp p (List.mem_cons_self ..))]
    have e : tlA ([] : List (List Atm)) [] = [] := by simp [tlA]
    rw [e, insG]
    simp [insL]
  | g' :: G, p' :: P, s :: S, A0, g, p, D, h1, h2, hd, hn, hp => by
    rw [List.replicate_succ, insG_put p D _ _ _ (hp p (List.mem_cons_self ..))]
    have eA : A0 ++ (g ++ tlA (g' :: G) (s :: S)) = (A0 ++ g ++ [s]) ++ (g' ++ tlA G S) := by rw [tlA]; simp
    have eB : A0 ++ (g ++ tlA (g' :: G) (s :: S)) = (A0 ++ g) ++ s :: (g' ++ tlA G S) := by rw [tlA]; simp
    have hk : plK (A0 ++ (g ++ tlA (g' :: G) (s :: S))) s.key = some (A0 ++ g).length := by rw [eB] at hn ⊢; exact plK_mid hn
    rw [tlA.eq_1 p' P s S, insG, hk]
    simp only
    have eD : D ++ mk ((⟨#[]⟩ : ByteArray).data.toList ++ txU p) :: List.replicate (g ++ tlA (g' :: G) (s :: S)).length ⟨#[]⟩ = (D ++ (mk (txU p) :: List.replicate g.length ⟨#[]⟩)) ++ List.replicate ((g' ++ tlA G S).length + 1) ⟨#[]⟩ := by
      rw [tlA, show (g ++ s :: (g' ++ tlA G S)).length = g.length + ((g' ++ tlA G S).length + 1) by simp, ← List.replicate_append_replicate]
      simp
    have eL : (A0 ++ g).length + 1 = (D ++ (mk (txU p) :: List.replicate g.length ⟨#[]⟩)).length := by simp; omega
    rw [eD, eL]
    have ih := insG_run G P S (A0 ++ g ++ [s]) g' p' (D ++ (mk (txU p) :: List.replicate g.length ⟨#[]⟩)) (by simpa using h1) (by simpa using h2) (by simp; omega) (by rw [← eA]; exact hn) (fun q hq x hx => by rw [← eA]; exact hp q (List.mem_cons_of_mem _ hq) x hx)
    rw [← eA] at ih
    rw [ih, insL]
    simp
  | [], _ :: _, _, _, _, _, _, h1, h2, _, _, _ => by simp at h1 h2; omega
  | _ :: _, [], _, _, _, _, _, h1, h2, _, _, _ => by simp at h1 h2; omega
  | [], [], _ :: _, _, _, _, _, h1, _, _, _, _ => by simp at h1
  | _ :: _, _ :: _, [], _, _, _, _, h1, _, _, _, _ => by simp at h1

theorem gon_run {B : List Atm} : ∀ (G : List (List Atm)) (S : List Atm), G.length = S.length → (∀ g ∈ G, ∀ x ∈ g, hasK B x = false) → (∀ s ∈ S, hasK B s = true) → (tlA G S).map (fun x => !hasK B x) = gonL G
  | [], [], _, _, _ => rfl
  | [], _ :: _, h, _, _ => by simp at h
  | _ :: _, [], h, _, _ => by simp at h
  | g :: G, s :: S, h, hg, hs => by
    rw [tlA, gonL, List.map_cons, List.map_append, gon_run G S (by simpa using h) (fun q hq => hg q (List.mem_cons_of_mem _ hq)) (fun q hq => hs q (List.mem_cons_of_mem _ hq)), hs s (List.mem_cons_self ..)]
    congr 2
    rw [List.map_congr_left (g := fun _ => true) (fun x hx => by rw [hg g (List.mem_cons_self ..) x hx]; rfl), List.map_const']

/-- The form of a delta from atoms to atoms, and what it is. -/
theorem form_delta {A B : List Atm} (nA : (kL A).Nodup) (nB : (kL B).Nodup) (hf : fitD A B = true) (zB : ∀ x ∈ B, szI x.z ≠ 0) :
    (nfU (formW (insG A 0 (List.replicate (A.length + 1) ⟨#[]⟩) B) (A.map fun x => !hasK B x))).map PS.op = dpD (gpG (hasK B) [] [] A) (gpG (hasK A) [] [] B) := by
  have hS := fit_eq nA nB hf
  have iA := ilv_gp (hasK B) A []
  have iB := ilv_gp (hasK A) B []
  have lA := gpG_len (hasK B) A [] []
  have lB := gpG_len (hasK A) B [] []
  have fA := gpG_all (hasK B) A [] []
  have fB := gpG_all (hasK A) B [] []
  rw [hS] at iB lB
  obtain ⟨S, hSe⟩ : ∃ S, A.filter (hasK B) = S := ⟨_, rfl⟩
  have hSm : ∀ s ∈ S, hasK B s = true := fun s hs => by rw [← hSe] at hs; exact (List.mem_filter.1 hs).2
  rw [hSe] at iA iB lA lB
  generalize gpG (hasK B) [] [] A = GA at *
  generalize gpG (hasK A) [] [] B = GB at *
  match GA, GB, lA, lB with
  | g :: G, p :: P, lA, lB =>
    simp only [List.length_nil, Nat.zero_add, List.length_cons] at lA lB
    rw [ilv_tl G S g (by omega), List.nil_append] at iA
    rw [ilv_tl P S p (by omega), List.nil_append] at iB
    have hgm : ∀ q ∈ g :: G, ∀ x ∈ q, hasK B x = false := fun q hq x hx => by
      have : x ∈ (g :: G).flatten := List.mem_flatten.2 ⟨q, hq, hx⟩
      rw [fA] at this
      exact (by simpa using this : x ∈ A ∧ hasK B x = false).2
    have hpm : ∀ q ∈ p :: P, ∀ x ∈ q, x ∈ B ∧ hasK A x = false := fun q hq x hx => by
      have : x ∈ (p :: P).flatten := List.mem_flatten.2 ⟨q, hq, hx⟩
      rw [fB] at this
      have h := List.mem_filter.1 (by simpa using this : x ∈ B.filter fun x => !hasK A x)
      exact ⟨h.1, by simpa using h.2⟩
    rw [dpD_nf]
    congr 2
    have r1 := insG_run G P S [] g p [] (by omega) (by omega) rfl (by rw [List.nil_append, iA]; exact nA) (fun q hq x hx => by
      rw [List.nil_append, iA, plK_none]
      have := (hpm q hq x hx).2
      simpa [hasK] using this)
    simp only [List.nil_append, List.length_nil] at r1
    rw [iA, iB] at r1
    rw [r1]
    have r2 : A.map (fun x => !hasK B x) = List.replicate g.length true ++ gonL G := by
      conv => lhs; rw [← iA]
      rw [List.map_append, gon_run G S (by omega) (fun q hq => hgm q (List.mem_cons_of_mem _ hq)) hSm]
      congr 1
      rw [List.map_congr_left (g := fun _ => true) (fun x hx => by rw [hgm g (List.mem_cons_self ..) x hx]; rfl), List.map_const']
    rw [r2]
    exact form_gaps g p G P (by omega) (fun q hq x hx => zB x (hpm q hq x hx).1)
  | [], _, lA, _ => simp at lA; omega
  | _ :: _, [], _, lB => simp at lB; omega
end Go.Proofs.YtofmficdfkeffaaDoor

/-
  The contract of the reference's Delta.
-/
namespace Go.Proofs.YtofmficdfkeffaaDoor
open Go.ChangeShapes Go.WideShapes Go.ChangeAt Go.RowKit Go.PlainAid

theorem Tryd.infoStr : (Tryd.prog.info? 9).map (fun i => (i.zero, i.size, i.bytes)) = some (some (.string ⟨#[]⟩), 1, 16) := by kernel_rfl
theorem Tryd.infoBoo : (Tryd.prog.info? 4).map (fun i => (i.zero, i.size, i.bytes)) = some (some (.bool false), 1, 1) := by kernel_rfl
set_option maxRecDepth 20000 in
theorem make_str (n : Nat) (hn : n ≤ 1001) (W : World) : (Instr.makeSlice 70 (.int .i64 (n : Int)) (.int .i64 (n : Int))).run Tryd.prog W = .ok (.slice (some ⟨W.heap.size, 0, none⟩) n n) (W.alloc (.cells ((List.replicate n (⟨#[]⟩ : ByteArray)).map Value.string).toArray 9)) := by
  obtain ⟨i0, hi, hz0, hz1, hz2⟩ := info_parts Tryd.infoStr
  have h := run_make (P := Tryd.prog) W 70 9 i0 (.string ⟨#[]⟩) Tryd.underlying70 hi hz0 .i64 .i64 (n : Int) (n : Int) (by omega) (by omega) (by rw [hz2]; omega) (by omega)
  rw [h, hz1]
  simp only [Int.toNat_natCast, Nat.mul_one]
  congr 3
  apply Array.ext'
  rw [show (Value.string (⟨#[]⟩ : ByteArray)).cells = #[.string ⟨#[]⟩] from rfl, toList_madeCells_one]
  simp
set_option maxRecDepth 20000 in
theorem make_boo (n : Nat) (hn : n ≤ 1001) (W : World) : (Instr.makeSlice 71 (.int .i64 (n : Int)) (.int .i64 (n : Int))).run Tryd.prog W = .ok (.slice (some ⟨W.heap.size, 0, none⟩) n n) (W.alloc (.cells ((List.replicate n false).map Value.bool).toArray 4)) := by
  obtain ⟨i0, hi, hz0, hz1, hz2⟩ := info_parts Tryd.infoBoo
  have h := run_make (P := Tryd.prog) W 71 4 i0 (.bool false) Tryd.underlying71 hi hz0 .i64 .i64 (n : Int) (n : Int) (by omega) (by omega) (by rw [hz2]; omega) (by omega)
  rw [h, hz1]
  simp only [Int.toNat_natCast, Nat.mul_one]
  congr 3
  apply Array.ext'
  rw [show (Value.bool false).cells = #[.bool false] from rfl, toList_madeCells_one]
  simp

section
variable (u : World) (a b c : Obj)
theorem al2 : (((u.alloc a).alloc b).alloc c).drew.heap[u.heap.size + 1 + 1]? = some c := by
  have := heap_alloc_new ((u.alloc a).alloc b) c
  rw [World.size_alloc, World.size_alloc] at this
  exact this
theorem al1 : (((u.alloc a).alloc b).alloc c).drew.heap[u.heap.size + 1]? = some b := by
  have h1 := heap_alloc_new (u.alloc a) b
  have h2 := Below.heap_alloc ((u.alloc a).alloc b) c (u.alloc a).heap.size (by simp)
  have := h2.trans h1
  rw [World.size_alloc] at this
  exact this
theorem al0 : (((u.alloc a).alloc b).alloc c).drew.heap[u.heap.size]? = some a := by
  have h1 := heap_alloc_new u a
  have h2 := Below.heap_alloc (u.alloc a) b u.heap.size (by simp)
  have h3 := Below.heap_alloc ((u.alloc a).alloc b) c u.heap.size (by simp; omega)
  exact h3.trans (h2.trans h1)
theorem alb : Below u.heap.size u (((u.alloc a).alloc b).alloc c).drew := ((((Below.refl _ u).alloc (Nat.le_refl _) a).alloc (by simp) b).alloc (by simp; omega) c).drew
theorem alr (k : Nat) (hk : k < u.heap.size) : (((u.alloc a).alloc b).alloc c).drew.heap[k]? = u.heap[k]? := (alb u a b c).block k hk
end
/-- A form on its way, in memory. -/
structure FbR (n : Nat) (w W : World) (pb gi gg : Nat) (ins : List ByteArray) (gone : List Bool) : Prop where
  box : W.heap[pb]? = some (.cells #[.slice (some ⟨gi, 0, none⟩) (n + 1) (n + 1), .slice (some ⟨gg, 0, none⟩) n n] 73)
  ir : W.heap[gi]? = some (.cells (ins.map Value.string).toArray 9)
  gr : W.heap[gg]? = some (.cells (gone.map Value.bool).toArray 4)
  pb0 : w.heap.size ≤ pb
  gi0 : w.heap.size ≤ gi
  gg0 : w.heap.size ≤ gg
  bel : Below w.heap.size w W
section
variable {n : Nat} {w W W' : World} {pb gi gg : Nat} {ins : List ByteArray} {gone : List Bool}
theorem FbR.setG (h : FbR n w W pb gi gg ins gone) (j : Nat) (b : Bool) : FbR n w (W.setCell ⟨gg, j, none⟩ (.bool b)) pb gi gg ins (gone.set j b) := by
  have n1 := heap_ne h.box h.gr (by decide)
  have n2 := heap_ne h.ir h.gr (by decide)
  refine ⟨?_, ?_, ?_, h.pb0, h.gi0, h.gg0, below_set h.bel h.gg0 h.bel.size⟩
  · rw [Below.heap_setCell W ⟨gg, j, none⟩ _ pb n1]; exact h.box
  · rw [Below.heap_setCell W ⟨gg, j, none⟩ _ gi n2]; exact h.ir
  · rw [heap_setCell h.gr j _]
    simp
theorem FbR.setI (h : FbR n w W pb gi gg ins gone) (j : Nat) (t : ByteArray) : FbR n w (W.setCell ⟨gi, j, none⟩ (.string t)) pb gi gg (ins.set j t) gone := by
  have n1 := heap_ne h.box h.ir (by decide)
  have n2 := heap_ne h.gr h.ir (by decide)
  refine ⟨?_, ?_, ?_, h.pb0, h.gi0, h.gg0, below_set h.bel h.gi0 h.bel.size⟩
  · rw [Below.heap_setCell W ⟨gi, j, none⟩ _ pb n1]; exact h.box
  · rw [heap_setCell h.ir j _]
    simp
  · rw [Below.heap_setCell W ⟨gi, j, none⟩ _ gg n2]; exact h.gr
theorem FbR.drew (h : FbR n w W pb gi gg ins gone) : FbR n w W.drew pb gi gg ins gone := ⟨h.box, h.ir, h.gr, h.pb0, h.gi0, h.gg0, h.bel.drew⟩
theorem FbR.below (h : FbR n w W pb gi gg ins gone) (hb : Below W.heap.size W W') : FbR n w W' pb gi gg ins gone :=
  ⟨(hb.block _ (heap_lt h.box)).trans h.box, (hb.block _ (heap_lt h.ir)).trans h.ir, (hb.block _ (heap_lt h.gr)).trans h.gr, h.pb0, h.gi0, h.gg0, h.bel.trans (hb.mono h.bel.size)⟩
theorem fb_c0 (h : FbR n w W pb gi gg ins gone) : W.cell? ⟨pb, 0, none⟩ = some (.slice (some ⟨gi, 0, none⟩) (n + 1) (n + 1)) := cell_of_row _ _ 0 _ _ (0, 0) h.box
theorem fb_c1 (h : FbR n w W pb gi gg ins gone) : W.cell? ⟨pb, 1, none⟩ = some (.slice (some ⟨gg, 0, none⟩) n n) := cell_of_row _ _ 1 _ _ (0, 0) h.box
theorem fb_cg (h : FbR n w W pb gi gg ins gone) (j : Nat) (hj : j < gone.length) : W.cell? ⟨gg, j, none⟩ = some (.bool (gone.getD j false)) := by
  rw [cell_of_row _ _ j _ _ (0, 0) h.gr]
  simp [hj]
theorem fb_ci (h : FbR n w W pb gi gg ins gone) (j : Nat) (hj : j < ins.length) : W.cell? ⟨gi, j, none⟩ = some (.string (ins.getD j ⟨#[]⟩)) := by
  rw [cell_of_row _ _ j _ _ (0, 0) h.ir]
  simp [hj]
theorem fb_zg (h : FbR n w W pb gi gg ins gone) (j : Nat) : W.frozen? ⟨gg, j, none⟩ = false := frz h.gr j
theorem fb_zi (h : FbR n w W pb gi gg ins gone) (j : Nat) : W.frozen? ⟨gi, j, none⟩ = false := frz h.ir j
theorem fb_mk (h1 : W.heap[pb]? = some (.cells #[.slice (some ⟨gi, 0, none⟩) (n + 1) (n + 1), .slice (some ⟨gg, 0, none⟩) n n] 73)) (h2 : W.heap[gi]? = some (.cells (Array.replicate (n + 1) (Value.string ⟨#[]⟩)) 9)) (h3 : W.heap[gg]? = some (.cells (Array.replicate n (Value.bool false)) 4)) (a : w.heap.size ≤ pb) (b : w.heap.size ≤ gi) (c : w.heap.size ≤ gg) (hb : Below w.heap.size w W) :
    FbR n w W pb gi gg (List.replicate (n + 1) ⟨#[]⟩) (List.replicate n false) := ⟨h1, by rw [h2]; simp, by rw [h3]; simp, a, b, c, hb⟩
end


theorem getD_set_ne {α : Type} {l : List α} {i q : Nat} {x d : α} (h : i ≠ q) : (l.set i x).getD q d = l.getD q d := by
  rw [List.getD_eq_getElem?_getD, List.getElem?_set_ne h, ← List.getD_eq_getElem?_getD]
theorem getD_set_self {α : Type} {l : List α} {i : Nat} {x d : α} (h : i < l.length) : (l.set i x).getD i d = x := by
  rw [List.getD_eq_getElem?_getD, List.getElem?_set_self h]
  rfl
theorem rdv_row {W : World} {g m c : Nat} {xs : List Value} {t : TypeId} (h : W.heap[g]? = some (.cells xs.toArray t)) (hm : xs.length = m) : RdV W (.slice (some ⟨g, 0, none⟩) m c) xs := by
  subst hm
  refine ⟨_, _, rfl, fun i x hx => ⟨g, 0, rfl, heap_lt h, ?_⟩⟩
  rw [Nat.zero_add, cell_of_row _ _ i _ _ (0, 0) h]
  simpa using hx


theorem insG_drop {A B : List Atm} {a : Nat} {ins : List ByteArray} {i : Nat} (hi : i < B.length) : insG A a ins (B.drop i) = match plK A B[i].key with
    | some k => insG A (k + 1) ins (B.drop (i + 1))
    | none => insG A a (ins.set a (mk ((ins.getD a ⟨#[]⟩).data.toList ++ (mk (ptB B[i].z.toNat)).data.toList))) (B.drop (i + 1)) := by
  rw [List.drop_eq_getElem_cons hi, insG]
  all_goals (cases plK A B[i].key <;> rfl)
theorem rep_v {n : Nat} : ∀ t ∈ List.replicate n (⟨#[]⟩ : ByteArray), 0 ≤ cpl t ∧ t.size ≤ 4 * 0 := fun t ht => by
  rw [List.eq_of_mem_replicate ht]
  exact ⟨by decide, by decide⟩
theorem put_v {ins : List ByteArray} {a i : Nat} {z : Int} (hv : ∀ t ∈ ins, 0 ≤ cpl t ∧ t.size ≤ 4 * i) (ha : a < ins.length) (hz : szI z ≠ 0) : ∀ t ∈ ins.set a (mk ((ins.getD a ⟨#[]⟩).data.toList ++ (mk (ptB z.toNat)).data.toList)), 0 ≤ cpl t ∧ t.size ≤ 4 * (i + 1) := fun t ht => by
  have hen := cpl_enc (p := [z]) (fun y hy => by simp at hy; rw [hy]; exact hz)
  rw [show enc [z] = ptB z.toNat by simp [enc]] at hen
  have hm : ins.getD a ⟨#[]⟩ ∈ ins := by
    rw [List.getD_eq_getElem?_getD, List.getElem?_eq_getElem ha]
    exact List.getElem_mem _
  have hb := hv _ hm
  have hc := cat_ok hb.1 (t := mk (ptB z.toNat)) (by rw [hen.1]; omega)
  have hl := (ptB_len z.toNat).2
  rcases List.mem_or_eq_of_mem_set ht with ht | rfl
  · exact ⟨(hv t ht).1, by have := (hv t ht).2; omega⟩
  · refine ⟨hc.1, ?_⟩
    rw [mk_size, List.length_append, data_len, data_len, mk_size]
    have := hb.2
    omega
/-- What the first loop has written. -/
def goG (B : List Atm) (A : List Atm) (k : Nat) : List Bool := (A.take k).map (fun x => !hasK B x) ++ List.replicate (A.length - k) false
theorem goG_zero (A B : List Atm) : goG B A 0 = List.replicate A.length false := by simp [goG]
theorem goG_len (A B : List Atm) {k : Nat} (hk : k ≤ A.length) : (goG B A k).length = A.length := by simp [goG]; omega
theorem goG_set {A B : List Atm} {k : Nat} (hk : k < A.length) : (goG B A k).set k (!hasK B A[k]) = goG B A (k + 1) := by
  unfold goG
  rw [List.take_succ_eq_append_getElem hk, show A.length - k = (A.length - (k + 1)) + 1 by omega, List.replicate_succ, List.map_append, List.set_append_right _ _ (by simp; omega)]
  simp [Nat.min_eq_left (Nat.le_of_lt hk)]
theorem goG_end (A B : List Atm) : goG B A A.length = A.map (fun x => !hasK B x) := by simp [goG]

set_option maxRecDepth 20000 in
set_option maxHeartbeats 1000000 in
theorem refDelta_any (vf vt : Value) (f t : List RunD) (w : World) (rf : RdN w vf f) (rt : RdN w vt t) (hmf : f.length ≤ 1125899906842624) (hmt : t.length ≤ 1125899906842624) (hif : ∀ r ∈ f, r.Bd) (hit : ∀ r ∈ t, r.Bd) (hsf : ∀ r ∈ f, r.t.size ≤ 1048576) (hst : ∀ r ∈ t, r.t.size ≤ 1048576) :
    Calls Tryd.prog 15 #[vf, vt] w fun e w' => ∃ u, e = .returned (.tuple #[u, .int .i64 (ddE f t)]) ∧ w'.ownsRow w.heap.size 67 3 u (ddL f t).length (ocs (ddL f t)) ∧ Below w.heap.size w w' := by
  have cK1 := rcheck_any vf f w rf hmf hif hsf
  have cK2 := fun W (h : Below w.heap.size w W) => rcheck_any vt t W (rt.below h) hmt hit hst
  have none_ : ∀ (z : Int) (w' : World), ddE f t = z → z ≠ 0 → Below w.heap.size w w' → ∃ u, (Ending.returned (.tuple #[.slice none 0 0, .int .i64 z])) = .returned (.tuple #[u, .int .i64 (ddE f t)]) ∧ w'.ownsRow w.heap.size 67 3 u (ddL f t).length (ocs (ddL f t)) ∧ Below w.heap.size w w' := fun z w' h h0 hb => by
    rw [ddL_no (by rw [h]; exact h0), h]
    exact ⟨_, rfl, World.ownsRow_nil _ _ _ _, hb⟩
  obtain ⟨fo, fc, ef, -⟩ := id rf
  obtain ⟨tO, tc, et, -⟩ := id rt
  subst ef et
  go_enter Tryd.func15, Tryd.ntmps15
  by_cases g1 : ckR f = 0
  · by_cases g2 : ckR t = 0
    · have G1 := ckR_zero.1 g1
      have G2 := ckR_zero.1 g2
      obtain ⟨nA, mA, lA, zA⟩ := good_kl G1
      obtain ⟨nB, mB, lB, zB⟩ := good_kl G2
      have cA1 := fun W (h : Below w.heap.size w W) => atoms_good _ f W (rf.below h) G1
      have cA2 := fun W (h : Below w.heap.size w W) => atoms_good _ t W (rt.below h) G2
      have hck : ckL [f, t] = 0 := by
        unfold ckL
        rw [if_pos]
        simp [(good_iff f).2 G1, (good_iff t).2 G2]
      have HE : Hid (ddE f t = if fitD (ats f) (ats t) = true then 0 else 141) := by show _ = _; unfold ddE; rw [if_pos hck]
      have HL : Hid (ddE f t = 0 → ddL f t = dpD (gpG (hasK (ats t)) [] [] (ats f)) (gpG (hasK (ats f)) [] [] (ats t))) := fun h => by unfold ddL; rw [if_pos h]
      have hfd := fitD_swap nA nB
      rw [g1] at cK1
      rw [g2] at cK2
      clear rf rt hif hit hsf hst G1 G2 hck mA mB zA g1 g2
      generalize ats f = A at *
      generalize ats t = B at *
      have cO := fun va vb W ha hb => rordered_any va vb A B W ha hb nB (by omega) (by omega)
      rw [hfd] at cO
      clear hfd
      go_wp2_with fail
      refine cK1.mono ?_
      rintro e w1 ⟨rfl, q1⟩
      go_wp2_with fail
      refine (cK2 _ q1).mono ?_
      rintro e w2 ⟨rfl, q2⟩
      replace q1 := chain q1 q2
      clear cK1 cK2 q2
      go_wp2_with fail
      refine (cA1 _ q1).mono ?_
      rintro e w3 ⟨u3, rfl, o3, q3⟩
      have r3 := rda_own o3
      obtain ⟨a3, k3, rfl⟩ := own_form o3
      replace q1 := chain q1 q3
      clear cA1 o3 q3
      go_wp2_with fail
      refine (cA2 _ q1).mono ?_
      rintro e w4 ⟨u4, rfl, o4, q4⟩
      have r4 := rda_own o4
      obtain ⟨a4, k4, rfl⟩ := own_form o4
      replace r3 := r3.below q4
      replace q1 := chain q1 q4
      clear cA2 o4 q4
      go_wp2_with fail
      refine (cO _ _ _ r3 r4).mono ?_
      rintro e w5 ⟨rfl, q5⟩
      replace r3 := r3.below q5
      replace r4 := r4.below q5
      replace q1 := chain q1 q5
      clear cO q5
      cases hfit : fitD A B with
      | false =>
        have HN : Hid (ddE f t = 141) := by show _ = _; rw [HE.out, hfit]; rfl
        clear HE HL r3 r4 nA nB lA lB zB
        go_wp2_with fail
        go_ret2
        exact none_ 141 _ HN.out (by decide) q1
      | true =>
        have HZ : Hid (ddE f t = 0) := by show _ = _; rw [HE.out, hfit]; rfl
        have HW : Hid (ddL f t = (nfU (formW (insG A 0 (List.replicate (A.length + 1) ⟨#[]⟩) B) (A.map fun x => !hasK B x))).map PS.op) := by
          show _ = _
          rw [HL.out HZ.out, form_delta nA nB hfit zB]
        have hmk1 := make_str (A.length + 1) (by omega)
        have hmk2 := make_boo A.length (by omega)
        rw [show ((A.length + 1 : Nat) : Int) = (A.length : Int) + 1 by omega] at hmk1
        clear HE HL none_ hfit nB
        have mA' : (A.length : Int) ≤ 1000 := by omega
        have mB' : (B.length : Int) ≤ 1000 := by omega
        go_upto_region 7 with fail
        go_cut [8] (fun p wx => ∃ pb gi gg, p = .pointer (some ⟨pb, 0, none⟩) ∧ FbR A.length w5 wx pb gi gg (List.replicate (A.length + 1) ⟨#[]⟩) (List.replicate A.length false))
        case first =>
          go_region
          all_goals
            go_wp2_with fail
            go_meet
          all_goals first
            | exact ⟨w5.heap.size, w5.heap.size + 1, w5.heap.size + 1 + 1, rfl, fb_mk (al0 w5 _ _ _) (al1 w5 _ _ _) (al2 w5 _ _ _) (by omega) (by omega) (by omega) (alb w5 _ _ _)⟩
            | exact ⟨w5.heap.size, w5.heap.size + 1 + 1, w5.heap.size + 1, rfl, fb_mk (al0 w5 _ _ _) (al2 w5 _ _ _) (al1 w5 _ _ _) (by omega) (by omega) (by omega) (alb w5 _ _ _)⟩
            | exact ⟨w5.heap.size + 1, w5.heap.size, w5.heap.size + 1 + 1, rfl, fb_mk (al1 w5 _ _ _) (al0 w5 _ _ _) (al2 w5 _ _ _) (by omega) (by omega) (by omega) (alb w5 _ _ _)⟩
            | exact ⟨w5.heap.size + 1, w5.heap.size + 1 + 1, w5.heap.size, rfl, fb_mk (al1 w5 _ _ _) (al2 w5 _ _ _) (al0 w5 _ _ _) (by omega) (by omega) (by omega) (alb w5 _ _ _)⟩
            | exact ⟨w5.heap.size + 1 + 1, w5.heap.size, w5.heap.size + 1, rfl, fb_mk (al2 w5 _ _ _) (al0 w5 _ _ _) (al1 w5 _ _ _) (by omega) (by omega) (by omega) (alb w5 _ _ _)⟩
            | exact ⟨w5.heap.size + 1 + 1, w5.heap.size + 1, w5.heap.size, rfl, fb_mk (al2 w5 _ _ _) (al1 w5 _ _ _) (al0 w5 _ _ _) (by omega) (by omega) (by omega) (alb w5 _ _ _)⟩
        case rest =>
          obtain ⟨pb, gi, gg, rfl, hF0⟩ := hcut
          rw [← goG_zero A B] at hF0
          clear hmk1 hmk2
          go_wp2_with fail
          go_loopw [9] (fun i wr => ∃ k : Nat, k ≤ A.length ∧ i = .int .i64 (k : Int) ∧ FbR A.length w5 wr pb gi gg (List.replicate (A.length + 1) ⟨#[]⟩) (goG B A k)) (fun i _ => A.length - (Go.RowKit.intOf i).toNat)
          case atStart => exact ⟨0, Nat.zero_le _, rfl, hF0⟩
          case round =>
            obtain ⟨k, hk, rfl, hF⟩ := hrel
            clear hF0
            by_cases hlt : k < A.length
            · have hlt' : (k : Int) < (A.length : Int) := by omega
              have cF := fun W (h : Below w5.heap.size w5 W) => rfind_any _ B A[k] W (r4.below h) (by omega)
              have hx : A[k]? = some A[k] := by simp [hlt]
              obtain ⟨ba, oa, rfl, hba, m0, m1, m2, m3⟩ := rda_at r3 hx
              have mc := fun W (h : Below w5.heap.size w5 W) (j : Nat) => h.cell (p := ⟨ba, j, none⟩) hba
              have HS : Hid (∀ b, b = !hasK B A[k] → (goG B A k).set k b = goG B A (k + 1)) := fun b hb => by rw [hb]; exact goG_set hlt
              have HD : Hid (decide (fdA A[k] B 0 < 0) = !hasK B A[k]) := by
                show _ = _
                cases h : hasK B A[k]
                · have := fdA_not.2 h; simp [this]
                · have := fdA_has.2 h; simp; omega
              have hgl := goG_len A B hk
              generalize A[k] = x at *
              generalize fdA x B 0 = z at *
              clear r3 r4 zB nA HW HZ hx
              generalize goG B A k = go at *
              have b0 := (mc _ hF.bel.drew (oa + k * 4)).trans m0
              have b1 := (mc _ hF.bel.drew (oa + k * 4 + 1)).trans m1
              have b2 := (mc _ hF.bel.drew (oa + k * 4 + 2)).trans m2
              have b3 := (mc _ hF.bel.drew (oa + k * 4 + 3)).trans m3
              have q0 := fb_c1 hF.drew
              have cF1 := cF _ hF.bel.drew
              clear m0 m1 m2 m3 mc cF
              go_upto_region 11 with fail
              go_region_with (go_at_call 18; refine cF1.mono ?_; rintro e w6 ⟨rfl, q6⟩; have hF6 := hF.drew.below q6; have q06 := fb_c1 hF6; have cg := fb_cg hF6 k (by omega); have zg := fb_zg hF6 k; have hS := hF6.setG k (decide (z < 0)))
              all_goals
                rw [HS.out _ HD.out] at hS
                clear cF1 b0 b1 b2 b3 q0 hF
                go_wp2_with fail
                exact ⟨⟨k + 1, by omega, by go_num, hS⟩, by simp only [Go.RowKit.intOf]; omega⟩
            · obtain rfl : k = A.length := by omega
              rw [goG_end] at hF
              go_wp2_with fail
              go_loopw [10, 11] (fun a i wr => ∃ (p k : Nat) (ins : List ByteArray), k ≤ B.length ∧ p ≤ A.length ∧ a = .int .i64 (p : Int) ∧ i = .int .i64 (k : Int) ∧ ins.length = A.length + 1 ∧ (∀ s ∈ ins, 0 ≤ cpl s ∧ s.size ≤ 4 * k) ∧ Hid (insG A 0 (List.replicate (A.length + 1) ⟨#[]⟩) B = insG A p ins (B.drop k)) ∧ FbR A.length w5 wr pb gi gg ins (A.map fun x => !hasK B x)) (fun _ i _ => B.length - (Go.RowKit.intOf i).toNat)
              case atStart => exact ⟨0, 0, _, Nat.zero_le _, Nat.zero_le _, rfl, rfl, by simp, rep_v, rfl, hF⟩
              case round =>
                obtain ⟨p, k, ins, hk, hp, rfl, rfl, hli, hv, HI, hF⟩ := hrel
                clear hlt
                by_cases hlt : k < B.length
                · have hlt' : (k : Int) < (B.length : Int) := by omega
                  have cF := fun W (h : Below w5.heap.size w5 W) => rfind_any _ A B[k] W (r3.below h) (by omega)
                  have hx : B[k]? = some B[k] := by simp [hlt]
                  obtain ⟨ba, oa, rfl, hba, m0, m1, m2, m3⟩ := rda_at r4 hx
                  have mc := fun W (h : Below w5.heap.size w5 W) (j : Nat) => h.cell (p := ⟨ba, j, none⟩) hba
                  have HJ := (show Hid _ from insG_drop (A := A) (a := p) (ins := ins) hlt)
                  have hxz := zB B[k] (by simp)
                  have cF1 := cF _ hF.bel
                  rw [fdA_pl] at cF1
                  have b0 := (mc _ hF.bel (oa + k * 4)).trans m0
                  have b1 := (mc _ hF.bel (oa + k * 4 + 1)).trans m1
                  have b2 := (mc _ hF.bel (oa + k * 4 + 2)).trans m2
                  have b3 := (mc _ hF.bel (oa + k * 4 + 3)).trans m3
                  cases hpl : plK A B[k].key with
                  | some j =>
                    have hj : j < A.length := by
                      have := (List.getElem?_eq_some_iff.1 ((plK_some nA).1 hpl)).1
                      simpa [kL] using this
                    have HN : Hid (insG A 0 (List.replicate (A.length + 1) ⟨#[]⟩) B = insG A (j + 1) ins (B.drop (k + 1))) := by
                      show _ = _
                      rw [HI.out, HJ.out]
                      simp only [hpl]
                    rw [hpl] at cF1
                    simp only [Nat.zero_add] at cF1
                    clear HI HJ hpl hx m0 m1 m2 m3 mc cF hxz HW HZ zB nA
                    generalize B[k] = x at *
                    go_wp2_with fail
                    refine cF1.mono ?_
                    rintro e w6 ⟨rfl, q6⟩
                    have hF6 := hF.below q6
                    clear cF1 b0 b1 b2 b3 hF
                    go_wp2_with fail
                    exact ⟨⟨j + 1, k + 1, ins, by omega, by omega, by go_num, by go_num, hli, fun s hs => ⟨(hv s hs).1, by have := (hv s hs).2; omega⟩, HN, hF6⟩, by simp only [Go.RowKit.intOf]; omega⟩
                  | none =>
                    have HN : Hid (insG A 0 (List.replicate (A.length + 1) ⟨#[]⟩) B = insG A p (ins.set p (mk ((ins.getD p ⟨#[]⟩).data.toList ++ (mk (ptB B[k].z.toNat)).data.toList))) (B.drop (k + 1))) := by
                      show _ = _
                      rw [HI.out, HJ.out]
                      simp only [hpl]
                    rw [hpl] at cF1
                    simp only at cF1
                    have HV := (show Hid _ from put_v hv (a := p) (by omega) hxz)
                    have htx := textR_one hxz
                    rw [show enc [B[k].z] = ptB B[k].z.toNat by simp [enc]] at htx
                    have hm := (hv (ins.getD p ⟨#[]⟩) (by rw [List.getD_eq_getElem?_getD, List.getElem?_eq_getElem (by omega)]; exact List.getElem_mem _)).2
                    clear HI HJ hpl hx m0 m1 m2 m3 cF hxz HW HZ zB nA
                    generalize B[k] = x at *
                    have d1 := data_len (ins.getD p ⟨#[]⟩)
                    have d2 : (mk (ptB x.z.toNat)).data.toList.length ≤ 4 := by rw [mk_toList]; exact (ptB_len _).2
                    have had := fun W => pk.add_mk (ins.getD p ⟨#[]⟩).data.toList (mk (ptB x.z.toNat)).data.toList W (by omega)
                    rw [mk_data, mk_data] at had
                    have hpi : p < ins.length := by omega
                    have p1 : (p : Int) < (A.length : Int) + 1 := by omega
                    have hll : (ins.set p (mk ((ins.getD p ⟨#[]⟩).data.toList ++ (mk (ptB x.z.toNat)).data.toList))).length = A.length + 1 := by rw [List.length_set]; exact hli
                    generalize hTT : mk ((ins.getD p ⟨#[]⟩).data.toList ++ (mk (ptB x.z.toNat)).data.toList) = T at *
                    clear hTT d1 d2 hm
                    go_wp2_with fail
                    refine cF1.mono ?_
                    rintro e w6 ⟨rfl, q6⟩
                    have hF6 := hF.below q6
                    have g2 := (mc _ hF6.bel (oa + k * 4 + 3)).trans ((mc _ hF.bel (oa + k * 4 + 3)).symm.trans b3)
                    clear cF1 b0 b1 b2 b3 hF mc
                    have cT := refText_any _ [x.z] _ (by simp) (reads_one w6 x.z)
                    rw [htx] at cT
                    simp only at cT
                    have hF7 := hF6.below ((Below.refl _ w6).alloc (Nat.le_refl _) (.cells #[.int .i64 x.z] 3))
                    clear htx hF6
                    generalize mk (ptB x.z.toNat) = sy at *
                    go_wp2_with fail
                    refine cT.mono ?_
                    rintro e w8 ⟨rfl, q8⟩
                    have hF8 := (hF7.below q8).drew
                    clear cT hF7 g2
                    have q0 := fb_c0 hF8
                    have ci0 := fb_ci hF8 p hpi
                    have zi := fb_zi hF8 p
                    have hS := hF8.setI p T
                    clear hF8
                    generalize ins.getD p ⟨#[]⟩ = s0 at *
                    go_upto_region 20 with fail
                    go_region
                    go_wp2_with fail
                    exact ⟨⟨p, k + 1, _, by omega, hp, rfl, by go_num, hll, HV.out, HN, hS⟩, by simp only [Go.RowKit.intOf]; omega⟩
                · obtain rfl : k = B.length := by omega
                  have HN : Hid (insG A 0 (List.replicate (A.length + 1) ⟨#[]⟩) B = ins) := by
                    show _ = _
                    rw [HI.out, List.drop_length, insG]
                  rw [HN.out] at HW
                  have ri := rdv_row (m := A.length + 1) (c := A.length + 1) hF.ir (by rw [List.length_map]; exact hli)
                  have rg := rdv_row (m := A.length) (c := A.length) hF.gr (by rw [List.length_map, List.length_map])
                  have cU := built_any (.slice (some ⟨gi, 0, none⟩) (A.length + 1) (A.length + 1)) (.slice (some ⟨gg, 0, none⟩) A.length A.length) ins (A.map fun x => !hasK B x) wr ri rg (by rw [List.length_map]; exact hli) (by rw [List.length_map]; omega) (fun t ht => ⟨(hv t ht).1, by have := (hv t ht).2; omega⟩)
                  rw [← List.length_map (f := PS.op)] at cU
                  rw [← HW.out] at cU
                  have q0 := fb_c0 hF
                  have q1' := fb_c1 hF
                  have HB : Hid (Below w.heap.size w wr) := chain q1 hF.bel
                  clear r3 r4 ri rg hF HI HN HW hv zB nA
                  go_wp2_with fail
                  refine cU.mono ?_
                  rintro e w9 ⟨u9, rfl, o9, q9⟩
                  have HR := (show Hid _ from And.intro (own_lower o9 HB.out.size) (chain HB.out q9))
                  clear o9 q9 cU
                  go_wp2_with fail
                  go_ret2
                  rw [HZ.out]
                  exact ⟨_, rfl, HR.out.1, HR.out.2⟩
    · have HN : Hid (ddE f t = 120) := by
        show _ = _
        unfold ddE
        rw [if_neg]
        intro h
        exact g2 (ckR_zero.2 (ckL_good h t (by simp)))
      have g2' : (ckR t != 0) = true := by simpa using g2
      rw [g1] at cK1
      clear rf rt hif hit hsf hst g1 g2
      generalize ckR t = z at *
      go_wp2_with fail
      refine cK1.mono ?_
      rintro e w1 ⟨rfl, q1⟩
      go_wp2_with fail
      refine (cK2 _ q1).mono ?_
      rintro e w2 ⟨rfl, q2⟩
      replace q1 := chain q1 q2
      clear cK1 cK2 q2
      go_wp2_with fail
      go_ret2
      exact none_ 120 _ HN.out (by decide) q1
  · have HN : Hid (ddE f t = 120) := by
      show _ = _
      unfold ddE
      rw [if_neg]
      intro h
      exact g1 (ckR_zero.2 (ckL_good h f (by simp)))
    have g1' : (ckR f != 0) = true := by simpa using g1
    clear rf rt hif hit hsf hst g1
    generalize ckR f = z at *
    go_wp2_with fail
    refine cK1.mono ?_
    rintro e w1 ⟨rfl, q1⟩
    clear cK1 cK2
    go_wp2_with fail
    go_ret2
    exact none_ 120 _ HN.out (by decide) q1

theorem nf_len (w : List U) : (nfU w).length ≤ 3 * baseU w + 3 := by
  have h := ju_bd w
  unfold nfU JU.out
  generalize ju ⟨[], 0, [], 0⟩ w = τ at *
  rw [List.length_append]
  have : (flushP τ.kept τ.put τ.gone).length ≤ 3 := by unfold flushP; split <;> split <;> split <;> simp
  omega
theorem ddL_len (f t : List RunD) : (ddL f t).length ≤ 3003 := by
  by_cases h : ddE f t = 0
  · have hck : ckL [f, t] = 0 := by
      unfold ddE at h
      split at h
      · assumption
      · cases h
    have hft : fitD (ats f) (ats t) = true := by
      unfold ddE at h
      rw [if_pos hck] at h
      split at h
      · assumption
      · cases h
    obtain ⟨nA, -, lA, -⟩ := good_kl (ckL_good hck f (by simp))
    obtain ⟨nB, -, -, zB⟩ := good_kl (ckL_good hck t (by simp))
    unfold ddL
    rw [if_pos h, ← form_delta nA nB hft zB, List.length_map]
    refine Nat.le_trans (nf_len _) ?_
    unfold formW
    rw [baseU_append, baseU_gap, baseU_I, List.length_map]
    omega
  · rw [ddL_no h]; simp
end Go.Proofs.YtofmficdfkeffaaDoor
