/-
  gc: marked.
-/
import Derived.Test.YthhdpabelcgfjaaGcB
import Derived.Deep.LoopGhost
namespace Go.Proofs.Ythhdpabelcgfjaa
open Go.Maps Go.ChangeShapes Go.WideShapes Go.ChangeAt Go.RowKit Go.PlainAid

/-! ### What is needed -/

def fdC (cs : List CoD) (n : Int) : Bool := (paL cs n).isSome
theorem fdC_mem : ∀ (cs : List CoD) (n : Int), fdC cs n = true ↔ n ∈ cs.map CoD.n
  | [], n => by simp [fdC, paL]
  | x :: l, n => by
    have := fdC_mem l n
    unfold fdC at this ⊢
    simp only [paL, List.map_cons, List.mem_cons]
    by_cases e : n = x.n
    · simp [e]
    · rw [if_neg e, this]; simp [e]
/-- A number's commit is needed. -/
inductive NeedC (cs : List CoD) (bs : List BrD) : Int → Prop
  | log {n : Int} {b : BrD} : b ∈ bs → n ∈ b.lg → fdC cs n = true → NeedC cs bs n
  | par {m n : Int} {ps : List Int} : NeedC cs bs m → paL cs m = some ps → n ∈ ps → fdC cs n = true → NeedC cs bs n
theorem NeedC.fd {cs : List CoD} {bs : List BrD} {n : Int} (h : NeedC cs bs n) : fdC cs n = true := by
  cases h with
  | log _ _ h => exact h
  | par _ _ _ h => exact h
/-- A list is that of the needed numbers. -/
structure IsNeed (cs : List CoD) (bs : List BrD) (M : List Int) : Prop where
  nd : M.Nodup
  iff : ∀ n, n ∈ M ↔ NeedC cs bs n
/-- Marks on their way: the first k branches are done. -/
structure GI (cs : List CoD) (bs : List BrD) (k : Nat) (s : List Int × List Int) : Prop where
  mi : MI (fdC cs) (cs.map CoD.n) s
  sound : ∀ n ∈ s.1, NeedC cs bs n
  clos : ∀ m ∈ s.1, m ∈ s.2 ∨ ∀ ps, paL cs m = some ps → ∀ n ∈ ps, fdC cs n = true → n ∈ s.1
  logs : ∀ (i : Nat) (b : BrD), i < k → bs[i]? = some b → ∀ n ∈ b.lg, fdC cs n = true → n ∈ s.1
theorem mk1_up (f : Int → Bool) (s : List Int × List Int) (n : Int) : (∀ x ∈ s.1, x ∈ (mk1 f s n).1) ∧ (∀ x ∈ s.2, x ∈ (mk1 f s n).2) := by
  unfold mk1
  split
  · exact ⟨fun x h => List.mem_append_left _ h, fun x h => List.mem_append_left _ h⟩
  · exact ⟨fun x h => h, fun x h => h⟩
theorem mkS_up (f : Int → Bool) : ∀ (l : List Int) (s : List Int × List Int), (∀ x ∈ s.1, x ∈ (mkS f s l).1) ∧ (∀ x ∈ s.2, x ∈ (mkS f s l).2)
  | [], s => ⟨fun x h => h, fun x h => h⟩
  | n :: l, s => by
    have h1 := mk1_up f s n
    have h2 := mkS_up f l (mk1 f s n)
    exact ⟨fun x h => h2.1 x (h1.1 x h), fun x h => h2.2 x (h1.2 x h)⟩
theorem mk1_in (f : Int → Bool) (s : List Int × List Int) (n : Int) (h : f n = true) : n ∈ (mk1 f s n).1 := by
  unfold mk1
  by_cases hc : n ∈ s.1
  · rw [if_neg (fun h => h.2 hc)]; exact hc
  · rw [if_pos ⟨h, hc⟩]; simp
theorem mkS_in (f : Int → Bool) : ∀ (l : List Int) (s : List Int × List Int), ∀ x ∈ l, f x = true → x ∈ (mkS f s l).1
  | [], _, x, h, _ => by cases h
  | n :: l, s, x, h, hf => by
    rcases List.mem_cons.1 h with rfl | h
    · exact (mkS_up f l (mk1 f s x)).1 x (mk1_in f s x hf)
    · exact mkS_in f l (mk1 f s n) x h hf
theorem mk1_from (f : Int → Bool) (s : List Int × List Int) (n : Int) : ∀ x ∈ (mk1 f s n).1, x ∈ s.1 ∨ (x = n ∧ f x = true ∧ x ∈ (mk1 f s n).2) := by
  unfold mk1
  split
  · rename_i hc
    intro x hx
    rcases List.mem_append.1 hx with h | h
    · exact .inl h
    · simp at h; subst h; exact .inr ⟨rfl, hc.1, by simp⟩
  · exact fun x h => .inl h
theorem mkS_from (f : Int → Bool) : ∀ (l : List Int) (s : List Int × List Int), ∀ x ∈ (mkS f s l).1, x ∈ s.1 ∨ (x ∈ l ∧ f x = true ∧ x ∈ (mkS f s l).2)
  | [], s, x, h => .inl h
  | n :: l, s, x, h => by
    rcases mkS_from f l (mk1 f s n) x h with h1 | ⟨h1, h2, h3⟩
    · rcases mk1_from f s n x h1 with h4 | ⟨rfl, h5, h6⟩
      · exact .inl h4
      · exact .inr ⟨List.mem_cons_self .., h5, (mkS_up f l (mk1 f s x)).2 x h6⟩
    · exact .inr ⟨List.mem_cons_of_mem _ h1, h2, h3⟩
theorem mk1_len (f : Int → Bool) (s : List Int × List Int) (n : Int) : s.1.length + (mk1 f s n).2.length = (mk1 f s n).1.length + s.2.length := by
  unfold mk1
  split
  · simp; omega
  · rfl
theorem mkS_len (f : Int → Bool) : ∀ (l : List Int) (s : List Int × List Int), s.1.length + (mkS f s l).2.length = (mkS f s l).1.length + s.2.length
  | [], s => rfl
  | n :: l, s => by
    have h1 := mk1_len f s n
    have h2 := mkS_len f l (mk1 f s n)
    show s.1.length + (mkS f (mk1 f s n) l).2.length = (mkS f (mk1 f s n) l).1.length + s.2.length
    omega
theorem mkS_more (f : Int → Bool) : ∀ (l : List Int) (s : List Int × List Int), s.1.length ≤ (mkS f s l).1.length
  | [], s => Nat.le_refl _
  | n :: l, s => by
    have h2 := mkS_more f l (mk1 f s n)
    have h1 : s.1.length ≤ (mk1 f s n).1.length := by unfold mk1; split <;> simp
    exact Nat.le_trans h1 h2
theorem GI.start (cs : List CoD) (bs : List BrD) : GI cs bs 0 ([], []) :=
  ⟨⟨by simp, fun n h => by simp at h, by simp, fun n h => by simp at h, fun n h => (fdC_mem cs n).1 h⟩, fun n h => by simp at h, fun m h => by simp at h, fun i b h => by omega⟩
theorem GI.log {cs : List CoD} {bs : List BrD} {k : Nat} {s : List Int × List Int} (h : GI cs bs k s) {b : BrD} (hb : bs[k]? = some b) : GI cs bs (k + 1) (mkS (fdC cs) s b.lg) := by
  have hu := mkS_up (fdC cs) b.lg s
  refine ⟨MI.all _ h.mi, fun n hn => ?_, fun m hm => ?_, fun i c hi hc n hn hf => ?_⟩
  · rcases mkS_from _ _ _ n hn with h1 | ⟨h1, h2, -⟩
    · exact h.sound n h1
    · exact .log (List.mem_of_getElem? hb) h1 h2
  · rcases mkS_from _ _ _ m hm with h1 | ⟨-, -, h3⟩
    · rcases h.clos m h1 with h4 | h4
      · exact .inl (hu.2 m h4)
      · exact .inr fun ps hp n hn hf => hu.1 n (h4 ps hp n hn hf)
    · exact .inl h3
  · by_cases e : i < k
    · exact hu.1 n (h.logs i c e hc n hn hf)
    · have : i = k := by omega
      subst this
      rw [hb] at hc
      cases hc
      exact mkS_in _ _ _ n hn hf
theorem GI.pop {cs : List CoD} {bs : List BrD} {k : Nat} {M fr : List Int} {m : Int} {ps : List Int} (h : GI cs bs k (M, fr ++ [m])) (hp : paL cs m = some ps) : GI cs bs k (mkS (fdC cs) (M, fr) ps) := by
  have hmM : m ∈ M := h.mi.sb m (by simp)
  have hu := mkS_up (fdC cs) ps (M, fr)
  have hmi : MI (fdC cs) (cs.map CoD.n) (M, fr) := ⟨h.mi.nd, h.mi.fd, by have := h.mi.nr; simp only [List.nodup_append] at this; exact this.1, fun n hn => h.mi.sb n (by simp only at hn ⊢; exact List.mem_append_left _ hn), h.mi.kk⟩
  refine ⟨MI.all _ hmi, fun n hn => ?_, fun x hx => ?_, fun i c hi hc n hn hf => hu.1 n (h.logs i c hi hc n hn hf)⟩
  · rcases mkS_from _ _ _ n hn with h1 | ⟨h1, h2, -⟩
    · exact h.sound n h1
    · exact .par (h.sound m hmM) hp h1 h2
  · rcases mkS_from _ _ _ x hx with h1 | ⟨-, -, h3⟩
    · rcases h.clos x h1 with h4 | h4
      · rcases List.mem_append.1 h4 with h5 | h5
        · exact .inl (hu.2 x h5)
        · simp at h5
          subst h5
          exact .inr fun ps' hp' n hn hf => by
            rw [hp] at hp'
            cases hp'
            exact mkS_in _ _ _ n hn hf
      · exact .inr fun ps hp n hn hf => hu.1 n (h4 ps hp n hn hf)
    · exact .inl h3
theorem GI.done {cs : List CoD} {bs : List BrD} {k : Nat} {M : List Int} (h : GI cs bs k (M, [])) (hk : bs.length ≤ k) : IsNeed cs bs M := by
  refine ⟨h.mi.nd, fun n => ⟨h.sound n, fun hn => ?_⟩⟩
  induction hn with
  | log hb hl hf =>
    obtain ⟨i, hi, rfl⟩ := List.mem_iff_getElem.1 hb
    exact h.logs i _ (by omega) (by simp) _ hl hf
  | par _ hp hn hf ih =>
    rcases h.clos _ ih with h1 | h1
    · cases h1
    · exact h1 _ hp _ hn hf
theorem paL_mem : ∀ (cs : List CoD) (n : Int) (ps : List Int), paL cs n = some ps → ∃ x ∈ cs, x.n = n ∧ x.ps = ps
  | [], n, ps, h => by cases h
  | x :: l, n, ps, h => by
    simp only [paL] at h
    split at h
    · rename_i e
      cases h
      exact ⟨x, List.mem_cons_self .., e.symm, rfl⟩
    · obtain ⟨y, h1, h2⟩ := paL_mem l n ps h
      exact ⟨y, List.mem_cons_of_mem _ h1, h2⟩
theorem isneed_mem {cs : List CoD} {bs : List BrD} {M N : List Int} (h : IsNeed cs bs M) (k : IsNeed cs bs N) : ∀ n, n ∈ M ↔ n ∈ N := fun n => (h.iff n).trans (k.iff n).symm

/-! ### marked -/

theorem make_mk (w : World) : (Instr.makeMap 55 none).run Try.prog w = .ok (.map (some w.heap.size)) (w.alloc (.map #[] 0)) := by
  simp [Instr.makeMap]
theorem mk_start (w0 : World) (b N : Nat) (F : Int → Option Value) (W : World) (hP : PaZ W b N F) (hb : Below w0.heap.size w0 W) :
    Mk w0 W.heap.size b (W.heap.size + 1 + 1) (W.heap.size + 1) (W.heap.size + 1 + 1 + 1) (W.heap.size + 1 + 1 + 1 + 1) N F [] [] (.slice none 0 0) ((((W.alloc (.cells #[.map (some b)] 75)).alloc (.map #[] 0)).alloc (.cells #[.map (some (W.heap.size + 1))] 55)).alloc (.cells #[.slice none 0 0] 28)) ∧ Below W.heap.size W ((((W.alloc (.cells #[.map (some b)] 75)).alloc (.map #[] 0)).alloc (.cells #[.map (some (W.heap.size + 1))] 55)).alloc (.cells #[.slice none 0 0] 28)) := by
  have b1 := alloc_bR W (.cells #[.map (some b)] 75)
  have h1 := heap_alloc_new W (.cells #[.map (some b)] 75)
  have z1 := World.size_alloc W (.cells #[.map (some b)] 75)
  generalize W.alloc (.cells #[.map (some b)] 75) = W1 at *
  have b2 := alloc_bR W1 (.map #[] 0)
  have m2 := mkz_new W1
  have z2 := World.size_alloc W1 (.map #[] 0)
  rw [z1] at m2 z2
  generalize W1.alloc (.map #[] 0) = W2 at *
  have b3 := alloc_bR W2 (.cells #[.map (some (W.heap.size + 1))] 55)
  have h3 := heap_alloc_new W2 (.cells #[.map (some (W.heap.size + 1))] 55)
  have z3 := World.size_alloc W2 (.cells #[.map (some (W.heap.size + 1))] 55)
  rw [z2] at h3 z3
  generalize W2.alloc (.cells #[.map (some (W.heap.size + 1))] 55) = W3 at *
  have b4 := alloc_bR W3 (.cells #[.slice none 0 0] 28)
  have h4 := heap_alloc_new W3 (.cells #[.slice none 0 0] 28)
  have z4 := World.size_alloc W3 (.cells #[.slice none 0 0] 28)
  rw [z3] at h4 z4
  generalize W3.alloc (.cells #[.slice none 0 0] 28) = W4 at *
  have b12 := b1.trans (b2.mono b1.size)
  have b13 := b12.trans (b3.mono b12.size)
  have b14 := b13.trans (b4.mono b13.size)
  have b24 := b2.trans ((b3.trans (b4.mono b3.size)).mono b2.size)
  have b34 := b3.trans (b4.mono b3.size)
  have hlt := hP.lt
  have hz := hb.size
  exact ⟨⟨(b24.block _ (heap_lt h1)).trans h1, (b4.block _ (heap_lt h3)).trans h3, h4, hP.below b14, m2.below b34, World.ownsRow_nil _ _ _ _, hb.trans (b14.mono hz), by omega, by omega, by omega, by omega, by omega⟩, b14⟩
theorem own_pop {W : World} {B g k n : Nat} {xs : List Value} {y : Value} {e : TypeId} (h : W.ownsRow B e 1 (.slice (some ⟨g, 0, none⟩) (n + 1) k) (n + 1) (xs ++ [y])) : W.ownsRow B e 1 (.slice (some ⟨g, 0, none⟩) n k) n xs := by
  have hl := h.1
  simp only [List.length_append, List.length_cons, List.length_nil, Nat.mul_one] at hl
  rcases h.2 with ⟨e0, -⟩ | ⟨g', cap, cur, e0, hB, hg, h1, h2, h3, h4⟩
  · cases e0
  · simp only [Value.slice.injEq, Option.some.injEq, Addr.mk.injEq, and_true, true_and] at e0
    obtain ⟨rfl, rfl⟩ := e0
    refine ⟨by omega, .inr ⟨g, k, cur, rfl, hB, hg, by omega, h2, h3, ?_⟩⟩
    rw [Nat.mul_one] at h4 ⊢
    have e1 : cur.toList.take n = (cur.toList.take (n + 1)).take n := by rw [List.take_take, Nat.min_eq_left (by omega)]
    rw [e1, h4, List.take_append_of_le_length (by omega), List.take_of_length_le (by omega)]
theorem own_cap {W : World} {B z k n : Nat} {ao : Option Addr} {xs : List Value} {e : TypeId} (h : W.ownsRow B e z (.slice ao n k) n xs) : n ≤ k := by
  rcases h.2 with ⟨e0, h0⟩ | ⟨g', cap, cur, e0, hB, hg, h1, -⟩
  · omega
  · simp only [Value.slice.injEq] at e0
    omega
theorem Mk.pop {w0 W : World} {p bp m bm q B N g k : Nat} {F : Int → Option Value} {M fr : List Int} {n : Int} (h : Mk w0 p bp m bm q B N F M (fr ++ [n]) (.slice (some ⟨g, 0, none⟩) (fr.length + 1) k) W) : Mk w0 p bp m bm q B N F M fr (.slice (some ⟨g, 0, none⟩) fr.length k) (W.setCell ⟨q, 0, none⟩ (.slice (some ⟨g, 0, none⟩) fr.length k)) := by
  have hf := h.fr
  simp only [List.length_append, List.length_cons, List.length_nil, Nat.zero_add] at hf
  have ho := own_pop (xs := ivs fr) (y := .int .i64 n) (by simpa [ivs] using hf)
  have hg2 := grown_set W q 0 (.slice (some ⟨g, 0, none⟩) fr.length k)
  have hs := fun k' (hn : k' ≠ q) => Below.heap_setCell W ⟨q, 0, none⟩ (.slice (some ⟨g, 0, none⟩) fr.length k) k' (by simpa using hn)
  have hpq : p ≠ q := fun e => by
    have h1 := h.hp
    rw [e, h.hq] at h1
    simp at h1
  have hmq : m ≠ q := fun e => by
    have h1 := h.hm
    rw [e, h.hq] at h1
    simp at h1
  have b1 : bp ≠ q := fun e => by
    obtain ⟨D, ⟨es, cl, hb, -⟩, -⟩ := h.pa
    rw [e, h.hq] at hb
    cases hb
  have b2 : bm ≠ q := fun e => (h.ms.box h.hq) e.symm
  exact ⟨(hs _ hpq).trans h.hp, (hs _ hmq).trans h.hm, heap_setCell h.hq 0 _, h.pa.kept hg2 (by simpa using b1), h.ms.kept hg2 (by simpa using b2), own_set (x := .slice (some ⟨g, 0, none⟩) fr.length k) (j := 0) ho h.hq (by decide), h.bl.setCell (p := ⟨q, 0, none⟩) h.l2 _, h.l1, h.l2, h.l3, Nat.le_trans h.lB (by have := hg2.size; omega), h.ne⟩
set_option maxRecDepth 20000 in
set_option maxHeartbeats 3000000 in
theorem marked_any {up : Bool} (S : StD) (v1 v2 v3 : Value) (w : World) (hr : RdSt w v1 v2 v3 S) (hU : StU up S) :
    Calls Try.prog 20 #[.agg (S.fs v1 v2 v3)] w fun e w' => ∃ b M, e = .returned (.map (some b)) ∧ MkZ w' b M ∧ IsNeed S.cs S.bs M ∧ w.heap.size ≤ b ∧ Below w.heap.size w w' := by
  obtain ⟨a1, k1, e1, -⟩ := id hr.c
  subst e1
  obtain ⟨a2, k2, e2, hbs⟩ := id hr.b
  subst e2
  obtain ⟨a3, k3, e3, -⟩ := id hr.u
  subst e3
  obtain ⟨us, hA⟩ := at_co hr.c
  have lc := hU.cl.1
  have lb := hU.bl.1
  have hco := hU.co
  have hbr := hU.br
  have hp0 := sb_new w S (.slice a1 S.cs.length k1) (.slice a2 S.bs.length k2) (.slice a3 S.us.length k3)
  have hb0 := alloc_bR w (.cells (S.fs (.slice a1 S.cs.length k1) (.slice a2 S.bs.length k2) (.slice a3 S.us.length k3)) 26)
  clear hr hU
  obtain ⟨nc, nb, cs, bs, uu⟩ := S
  simp only [StD.fs] at *
  have cP := fun W (h : Below w.heap.size w W) => parentsOf_any a1 k1 cs us W (hA.below h) lc (fun x hx => (hco x hx).2.2.2.2.1)
  have hF1 : ∀ n, (paF cs us n).isSome = fdC cs n := fun n => paF_some cs us n hA.ul
  have hF2 : ∀ n v, paF cs us n = some v → ∃ ps, paL cs n = some ps ∧ RdI w v ps := fun n v h => paF_rd cs us n v (fun i x u hi hu => by obtain ⟨b, off, -, -, -, r1, -⟩ := hA.at_ i x u hi hu; exact r1) h
  generalize paF cs us = F at *
  have hmk := make_mk
  obtain ⟨x0, x1, x2, x3, x4⟩ := cellsSB hp0
  have cP1 := cP _ hb0
  go_enter Try.func20, Try.ntmps20
  go_wp2_with fail
  generalize w.alloc (.cells #[.int .i64 nc, .int .i64 nb, .slice a1 cs.length k1, .slice a2 bs.length k2, .slice a3 uu.length k3] 26) = w1 at *
  refine cP1.mono ?_
  rintro e w2 ⟨b, rfl, hP, hbb, hb2⟩
  have hb02 := hb0.trans (hb2.mono hb0.size)
  have hp2 := hp0.below hb2
  obtain ⟨hst, hbq⟩ := mk_start w b cs.length F w2 hP hb02
  have hp2lt := heap_lt hp2
  clear x0 x1 x2 x3 x4 cP cP1 hA hp0 hb0 hb2 hbb
  have hp3 := hp2.below hbq
  go_upto_region 5 with fail
  generalize ((((w2.alloc (.cells #[.map (some b)] 75)).alloc (.map #[] 0)).alloc (.cells #[.map (some (w2.heap.size + 1))] 55)).alloc (.cells #[.slice none 0 0] 28)) = W0 at *
  have hf : (fun n => (F n).isSome) = fdC cs := funext hF1
  obtain ⟨x0, x1, x2, x3, x4⟩ := cellsSB hp3
  have hKl : (cs.map CoD.n).length ≤ 17592186044000 := by rw [List.length_map]; omega
  have hg0 := GI.start cs bs
  clear hp3 hp2 hb02 hbq hP hmk hp2lt
  go_upto_region 6 with fail
  clear x0 x1 x2 x3 x4
  obtain ⟨P, HP⟩ : ∃ P, P = w2.heap.size := ⟨_, rfl⟩
  rw [← HP] at hst ⊢
  clear HP
  go_loopw [19] (fun i wr => ∃ (k : Nat) (s : List Int × List Int) (gv : Value), k ≤ bs.length ∧ i = .int .i64 (k : Int) ∧ GI cs bs k s ∧ Mk w P b (P + 1 + 1) (P + 1) (P + 1 + 1 + 1) (P + 1 + 1 + 1 + 1) cs.length F s.1 s.2 gv wr) (fun i _ => bs.length - (Go.RowKit.intOf i).toNat)
  case atStart => exact ⟨0, ([], []), _, by omega, rfl, hg0, hst⟩
  case round =>
    clear hst hg0
    obtain ⟨k, s, gv, hk, rfl, hG, hM⟩ := hrel
    by_cases hlt : k < bs.length
    · have hlt' : (k : Int) < (bs.length : Int) := by omega
      obtain ⟨g, off, lv, rfl, hg, ⟨c0, c1, c2⟩, r1⟩ := hbs k bs[k] (by simp [hlt])
      have hxk : bs[k]? = some bs[k] := by simp [hlt]
      have q := fun o => hM.bl.cell (p := ⟨g, o, none⟩) hg
      rw [← q] at c0 c1 c2
      have hxu := hbr bs[k] (List.getElem_mem hlt)
      have hG2 := hG.log hxk
      clear hxk q
      generalize bs[k] = x at *
      obtain ⟨al, kl, rfl⟩ := rdi_len r1
      have halr := alloc_bR wr (.cells #[.int .i64 x.i, .string x.nm, .slice al x.lg.length kl] 47)
      have hM2 := hM.below halr
      obtain ⟨Ms, fs⟩ := s
      have hmi := hG.mi
      rw [← hf] at hmi hG2
      have cM := mark_any (.slice al x.lg.length kl) x.lg _ hM2 hmi hKl r1 (by have := hxu.2.1.1; omega) hxu.2.2.2
      clear hmi halr hM2 hM hG r1 hxu
      go_wp2_with fail
      refine cM.mono ?_
      rintro e w4 ⟨rfl, gv', hM4⟩
      rw [hf] at hM4 hG2
      clear c0 c1 c2 cM
      go_wp2_with fail
      exact ⟨⟨k + 1, _, _, by omega, by go_num, hG2, hM4⟩, by simp [Go.RowKit.intOf]; omega⟩
    · have hlt' : ¬ (k : Int) < (bs.length : Int) := by omega
      clear hbs hbr
      go_wp2_with fail
      obtain ⟨Ms, fs⟩ := s
      have hkb : bs.length ≤ k := by omega
      have hG' : GI cs bs bs.length (Ms, fs) := ⟨hG.mi, hG.sound, hG.clos, fun i c hi hc => hG.logs i c (by omega) hc⟩
      have hco' : ∀ x ∈ cs, x.ps.length ≤ 17592186044416 ∧ ∀ p ∈ x.ps, InI p := fun x hx => ⟨by have := (hco x hx).2.2.2.1.1; omega, (hco x hx).2.2.2.2.2⟩
      have hci : ∀ x ∈ cs, InI x.n := fun x hx => (hco x hx).2.2.2.2.1
      clear hG hk hkb hco lc lb hlt hlt'
      go_loopg [] (2 * (cs.length - Ms.length) + fs.length) (fun n wr => ∃ (M fr : List Int) (gv : Value), Aside (2 * (cs.length - M.length) + fr.length = n) ∧ GI cs bs bs.length (M, fr) ∧ Mk w P b (P + 1 + 1) (P + 1) (P + 1 + 1 + 1) (P + 1 + 1 + 1 + 1) cs.length F M fr gv wr)
      case atStart => exact ⟨Ms, fs, gv, by show _ = _; rfl, hG', hM⟩
      case round =>
        clear hM hG'
        obtain ⟨M, fz, gv, HA, hG, hM⟩ := hrel
        obtain ⟨ag, kg, rfl⟩ := own_form hM.fr
        obtain ⟨e1, f1⟩ := cell1 hM.hq
        have hml := hG.mi.len
        simp only [List.length_map] at hml hKl
        rcases List.eq_nil_or_concat fz with rfl | ⟨fr, m, efz⟩
        · have hN := hG.done (Nat.le_refl _)
          obtain ⟨e2, f2⟩ := cell1 hM.hm
          have hms := hM.ms
          have hbl := hM.bl
          have hl1 := hM.l1
          clear hM hG HA hF2 hco' hci
          go_wp2_with fail
          go_ret
          exact ⟨_, _, rfl, hms, hN, hl1, hbl⟩
        · rw [List.concat_eq_append] at efz
          subst efz
          obtain ⟨v, hv⟩ : ∃ v, F m = some v := by
            have h1 : (F m).isSome = true := by
              rw [hF1]
              exact hG.mi.fd m (hG.mi.sb m (by simp))
            exact Option.isSome_iff_exists.1 h1
          obtain ⟨ps, hps, hrv⟩ := hF2 m v hv
          obtain ⟨x, hx, hxn, hxp⟩ := paL_mem cs m ps hps
          have hIm : InI m := hxn ▸ hci x hx
          have hps2 := hco' x hx
          rw [hxp] at hps2
          have hG2 := hG.pop hps
          have hlen := mkS_len (fdC cs) ps (M, fr)
          have hml2 := hG2.mi.len
          have hMf : M.length + 0 ≤ cs.length := by omega
          have hmi : MI (fun n => (F n).isSome) (cs.map CoD.n) (M, fr) := by
            rw [hf]
            exact ⟨hG.mi.nd, hG.mi.fd, by have := hG.mi.nr; simp only [List.nodup_append] at this; exact this.1, fun n hn => hG.mi.sb n (by simp only at hn ⊢; exact List.mem_append_left _ hn), hG.mi.kk⟩
          have hc0 : (ivs (fr ++ [m]))[fr.length]? = some (.int .i64 m) := by simp [ivs]
          simp only [List.length_append, List.length_cons, List.length_nil, Nat.zero_add, List.length_map] at hM e1 f1 HA hml2 hml
          have hfr := hM.fr
          simp only [List.length_append, List.length_cons, List.length_nil, Nat.zero_add] at hfr
          obtain ⟨gq, rfl, hgB, hgl, hgf⟩ := own_block hfr (by omega)
          have hcap := own_cap hfr
          have c0 := hfr.cells (g := gq) rfl _ _ hc0
          rw [adK, Nat.zero_add] at c0
          have hM2 := hM.pop
          obtain ⟨al, kl, rfl⟩ := rdi_len hrv
          have hlk := hM2.pa.at_ hIm hv
          obtain ⟨e3, f3⟩ := cell1 hM2.hp
          have cM := mark_any (.slice al ps.length kl) ps _ hM2 hmi (by rw [List.length_map]; omega) hrv hps2.1 hps2.2
          have hfl : fr.length ≤ 17592186044000 := by omega
          obtain ⟨HB⟩ : Nonempty (Hid (M.length + (mkS (fdC cs) (M, fr) ps).2.length = (mkS (fdC cs) (M, fr) ps).1.length + fr.length ∧ (mkS (fdC cs) (M, fr) ps).1.length ≤ cs.length ∧ M.length ≤ (mkS (fdC cs) (M, fr) ps).1.length)) := ⟨⟨hlen, hml2.1, mkS_more (fdC cs) ps (M, fr)⟩⟩
          rw [hf] at cM
          obtain ⟨n, hn⟩ : ∃ n, n = fr.length := ⟨_, rfl⟩
          rw [← hn] at e1 c0 e3 f3 hlk cM hfl HB HA hcap
          clear hn hG hM hM2 hfr hc0 hmi hml hml2 hlen hps hrv hps2 hv hx hxn hxp hci hco' hF2 hMf hKl
          generalize mkS (fdC cs) (M, fr) ps = s2 at *
          obtain ⟨M2, fr2⟩ := s2
          simp only at HB cM
          have hd1 : ((n : Int) + 1 > 0) := by omega
          have hd2 : ((0 : Int) < (n : Int) + 1) := by omega
          have hd4 : (n : Int) ≤ (kg : Int) := by omega
          have hd5 : n ≤ kg := by omega
          have hd3 : (n : Int) + 1 - 1 = (n : Int) := by omega
          go_wp2_with fail
          refine cM.mono ?_
          rintro e w4 ⟨rfl, gv', hM4⟩
          clear cM c0 e1 f1 e3 f3 hlk hd1 hd2 hd3 hd4 hd5 hcap
          go_wp2_with fail
          go_roundg (2 * (cs.length - M2.length) + fr2.length)
          case measure =>
            have h1 := HA.out
            have h2 := HB.out
            omega
          case rel => exact ⟨M2, fr2, gv', by show _ = _; rfl, hG2, hM4⟩
end Go.Proofs.Ythhdpabelcgfjaa
