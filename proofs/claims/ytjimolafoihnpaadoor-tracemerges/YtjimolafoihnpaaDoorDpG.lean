/-
  Documents and origins that came in, opened.
-/
import Derived.Test.YtjimolafoihnpaaDoorDoQ
import Derived.Deep.Slices
import Derived.SizedLaws
namespace Go.Proofs.YtjimolafoihnpaaDoor
open Go.ChangeShapes Go.WideShapes Go.ChangeAt Go.RowKit Go.PlainAid

/-- The numbers of a run fit. -/
structure RunD.Bd (r : RunD) : Prop where
  c0 : -9223372036854775808 ≤ r.c
  c1 : r.c ≤ 9223372036854775807
  q0 : -9223372036854775808 ≤ r.q
  q1 : r.q ≤ 9223372036854775807
  f0 : -9223372036854775808 ≤ r.f
  f1 : r.f ≤ 9223372036854775807

set_option maxRecDepth 20000 in
/-- An origin, out of its cells. -/
theorem open_or {H : Type} {enc : TypeId × Value → H} {w : World} {spare : Nat → Bool} {held : Bool} {n : Nat} {cs : List Value} {x : DataW H × List MemPlace} (h : DataW.trod enc Tryd.prog w 0 spare held n 29 cs = some x) :
    ∃ c q : Int, cs = [.int .i64 c, .int .i64 q] ∧ (-9223372036854775808 ≤ c ∧ c ≤ 9223372036854775807) ∧ (-9223372036854775808 ≤ q ∧ q ≤ 9223372036854775807) := by
  obtain ⟨xs, m, _, hx, hl, _, hf⟩ := DataW.trod_struct Tryd.underlying29 h
  have h4 : Tryd.prog.cellsOf 29 = 2 := by kernel_rfl
  have c3 : Tryd.prog.cellsOf 3 = 1 := by kernel_rfl
  rw [h4] at hl
  have hxl : xs.length = 2 := by assumption
  match xs, hxl, cs, hl with
  | [y0, y1], _, [v0, v1], _ =>
    have g0 := hf 0 _ rfl
    have g1 := hf 1 _ rfl
    simp [c3] at g0 g1
    obtain ⟨a0, e0, _, w0⟩ := DataW.trod_int Tryd.underlying3 g0
    obtain ⟨a1, e1, _, w1⟩ := DataW.trod_int Tryd.underlying3 g1
    simp at e0 e1
    exact ⟨a0, a1, by rw [e0, e1], wf_bd w0, wf_bd w1⟩

theorem or_val {v : Value} {c q : Int} (h : v.cells.toList = [.int .i64 c, .int .i64 q]) : v = .agg #[.int .i64 c, .int .i64 q] := by
  cases v with
  | agg a =>
    simp only [Value.cells] at h
    congr 1
    apply Array.ext'
    rw [h]
  | _ => simp [Value.cells] at h

set_option maxRecDepth 20000 in
/-- One run, out of its cells; B bounds what its Text weighs. -/
theorem open_rn {H : Type} {enc : TypeId × Value → H} {w : World} {spare : Nat → Bool} {held : Bool} {n : Nat} {cs : List Value} {x : DataW H × List MemPlace} (h : DataW.trod enc Tryd.prog w 0 spare held n 44 cs = some x) :
    ∃ (r : RunD) (d0 d1 : DataW H), cs = [.int .i64 r.c, .int .i64 r.q, .int .i64 r.f, .string r.t] ∧ r.Bd ∧ x.1 = .agg [d0, d1, .lit (.string r.t.data.toList)] := by
  obtain ⟨xs, m, _, hx, hl, _, hf⟩ := DataW.trod_struct Tryd.underlying44 h
  have h4 : Tryd.prog.cellsOf 44 = 4 := by kernel_rfl
  have c2 : Tryd.prog.cellsOf 29 = 2 := by kernel_rfl
  have c3 : Tryd.prog.cellsOf 3 = 1 := by kernel_rfl
  have c9 : Tryd.prog.cellsOf 9 = 1 := by kernel_rfl
  rw [h4] at hl
  have hxl : xs.length = 3 := by assumption
  match xs, hxl, cs, hl with
  | [y0, y1, y2], _, [v0, v1, v2, v3], _ =>
    have g0 := hf 0 _ rfl
    have g1 := hf 1 _ rfl
    have g2 := hf 2 _ rfl
    simp [c2, c3, c9] at g0 g1 g2
    obtain ⟨a, b, e0, ba, bb⟩ := open_or g0
    obtain ⟨a1, e1, _, w1⟩ := DataW.trod_int Tryd.underlying3 g1
    obtain ⟨a2, e2, f2, w2⟩ := DataW.trod_string Tryd.underlying9 g2
    simp at e0 e1 e2
    refine ⟨⟨a, b, a1, a2⟩, y0.1, y1.1, by rw [e0.1, e0.2, e1, e2], ⟨ba.1, ba.2, bb.1, bb.2, (wf_bd w1).1, (wf_bd w1).2⟩, ?_⟩
    rw [hx]
    simp only [List.map]
    rw [f2]

set_option maxRecDepth 20000 in
/-- Runs, out of their value; K is what is known of each run's datum. -/
theorem open_rns {H : Type} {enc : TypeId × Value → H} {w : World} {spare : Nat → Bool} {held : Bool} {fuel : Nat} {ao : Option Addr} {len cap : Nat} {x : DataW H × List MemPlace} (N : Nat) (K : DataW H → Prop)
    (h : DataW.trod enc Tryd.prog w 0 spare held fuel 22 (Value.slice ao len cap).cells.toList = some x)
    (hN : ∀ (D : Nat → DataW H) (sp : List (DataW H)), x.1 = .slice ((List.range len).map D) sp → len ≤ N ∧ ∀ i, i < len → K (D i)) :
    ∃ l : List RunD, RdN w (.slice ao len cap) l ∧ l.length ≤ N ∧ ∀ r ∈ l, r.Bd ∧ ∃ d0 d1 : DataW H, K (.agg [d0, d1, .lit (.string r.t.data.toList)]) := by
  rcases Go.Deep.open_slice Tryd.underlying22 h with ⟨hcs, _⟩ | ⟨a, l, c, m, n, D, Pl, hcs, _, hl, hmx, hmm, hx, hall⟩
  · simp [Value.cells] at hcs
    obtain ⟨rfl, rfl, rfl⟩ := hcs
    exact ⟨[], RdN.nil w, Nat.zero_le _, by simp⟩
  · simp [Value.cells] at hcs
    obtain ⟨rfl, rfl, rfl⟩ := hcs
    have hlm : len ≤ m := by rw [hmm]; split <;> omega
    have h4 : Tryd.prog.cellsOf 44 = 4 := by kernel_rfl
    obtain ⟨hln, hK⟩ := hN D _ (by rw [hx])
    rw [h4] at hall
    obtain ⟨b, off, spot⟩ := a
    have hsp : ∀ i, i < len → spot = none := by
      intro i hi
      obtain ⟨cs', h1, h2⟩ := hall 0 (by omega)
      obtain ⟨o, _, _, rfl, _⟩ := open_rn h2
      obtain ⟨_, _, hcell⟩ := World.cells?_some h1
      have e0 := hcell 0 (by omega)
      simp at e0
      have := World.cell?_spot e0
      simpa [Addr.add] using this
    have each : ∀ i, i < len → ∃ o : RunD, (o.Bd ∧ ∃ d0 d1 : DataW H, K (.agg [d0, d1, .lit (.string o.t.data.toList)])) ∧ spot = none ∧ b < w.heap.size ∧ w.cell? ⟨b, off + i * 4, none⟩ = some (.int .i64 o.c) ∧ w.cell? ⟨b, off + i * 4 + 1, none⟩ = some (.int .i64 o.q) ∧ w.cell? ⟨b, off + i * 4 + 2, none⟩ = some (.int .i64 o.f) ∧ w.cell? ⟨b, off + i * 4 + 3, none⟩ = some (.string o.t) := by
      intro i hi
      obtain ⟨cs', h1, h2⟩ := hall i (by omega)
      obtain ⟨o, d0, d1, rfl, ho, hd⟩ := open_rn h2
      obtain ⟨_, _, hcell⟩ := World.cells?_some h1
      have e0 := hcell 0 (by omega)
      have e1 := hcell 1 (by omega)
      have e2 := hcell 2 (by omega)
      have e3 := hcell 3 (by omega)
      rw [Go.Deep.add_add] at e0 e1 e2 e3
      simp at e0 e1 e2 e3
      obtain rfl := hsp i hi
      have hadd : ∀ k, (⟨b, off, none⟩ : Addr).add k = ⟨b, off + k, none⟩ := fun k => by unfold Addr.add; split <;> simp_all
      rw [hadd] at e0 e1 e2 e3
      have hk := hK i hi
      simp only at hd
      rw [hd] at hk
      exact ⟨o, ⟨ho, d0, d1, hk⟩, rfl, World.block_lt_of_cell? w _ e0, e0, by rw [Nat.add_assoc]; exact e1, by rw [Nat.add_assoc]; exact e2, by rw [Nat.add_assoc]; exact e3⟩
    obtain ⟨f, hf⟩ := @Go.Deep.choose_lt RunD ⟨⟨0, 0, 0, ⟨#[]⟩⟩⟩ _ _ each
    have hlen : ((List.range len).map f).length = len := by simp
    refine ⟨(List.range len).map f, ⟨some ⟨b, off, spot⟩, cap, by rw [hlen], by rw [hlen]; omega, fun i o ho => ?_⟩, by rw [hlen]; omega, fun o ho => ?_⟩
    · have hi : i < len := by
        have := (List.getElem?_eq_some_iff.1 ho).1
        simpa using this
      simp [hi] at ho
      subst ho
      obtain ⟨_, rfl, r⟩ := hf i hi
      exact ⟨b, off, rfl, r⟩
    · obtain ⟨i, hi, rfl⟩ := List.mem_map.1 ho
      exact (hf i (List.mem_range.1 hi)).1

set_option maxRecDepth 20000 in
/-- A document, out of its value: the whole form. -/
theorem open_rnz {H : Type} {enc : TypeId × Value → H} {w : World} {spare : Nat → Bool} {held : Bool} {fuel : Nat} {ao : Option Addr} {len cap : Nat} {x : DataW H × List MemPlace}
    (h : DataW.trod enc Tryd.prog w 0 spare held fuel 22 (Value.slice ao len cap).cells.toList = some x) (hz : ∀ n ∈ x.1.weights Tryd.prog 22, n ≤ reachBytes) :
    ∃ l : List RunD, RdN w (.slice ao len cap) l ∧ l.length ≤ 4398046511104 ∧ ∀ r ∈ l, r.Bd ∧ r.In := by
  have hb : Tryd.prog.bytesOf 44 = 40 := by kernel_rfl
  obtain ⟨l, h1, h2, h3⟩ := open_rns 4398046511104 (fun d => ∀ n ∈ d.weights Tryd.prog 44, n ≤ reachBytes) h (fun D sp hx => by
    refine ⟨?_, fun i hi n hn => ?_⟩
    · have := hz ((len + sp.length) * 40) (by rw [hx]; simp [DataW.weights, Tryd.underlying22, hb])
      unfold reachBytes at this
      omega
    · refine hz n ?_
      rw [hx]
      unfold DataW.weights
      rw [Tryd.underlying22]
      exact List.mem_cons_of_mem _ (List.mem_append_left _ (wAll_mem (List.mem_map.2 ⟨i, List.mem_range.2 hi, rfl⟩) n hn)))
  refine ⟨l, h1, h2, fun r hr => ⟨(h3 r hr).1, ?_⟩⟩
  obtain ⟨_, d0, d1, hk⟩ := h3 r hr
  have := hk r.t.size (by
    unfold DataW.weights
    rw [Tryd.underlying44]
    exact DataW.weights_mem_each (j := 2) (t := 9) (d := .lit (.string r.t.data.toList)) rfl rfl _ (by simp [DataW.weights]))
  unfold reachBytes at this
  show _ ≤ _
  omega
end Go.Proofs.YtjimolafoihnpaaDoor

/-
  A document behind a delta: its text, and it may be. No walk.
-/
namespace Go.Proofs.YtjimolafoihnpaaDoor
open Go.ChangeShapes Go.WideShapes Go.ChangeAt Go.RowKit Go.PlainAid

theorem atG_z (c q : Int) : ∀ (n : Int) (zs : List Int), (atG c q n zs).map Atm.z = zs
  | _, [] => rfl
  | n, z :: zs => by rw [atG, List.map_cons, atG_z c q (n + 1) zs]
/-- The code points of a document's atoms are those of its text. -/
theorem pts_txt : ∀ (l : List RunD), (∀ r ∈ l, r.Ok) → 0 ≤ cpl (mk (txB l)) ∧ pts (mk (txB l)) = (ats l).map Atm.z
  | [], _ => by
    refine ⟨by rw [txB_nil, mk_nil0]; omega, ?_⟩
    have h := pts_len (t := mk (txB [])) (by rw [txB_nil, mk_nil0]; omega)
    rw [txB_nil, mk_nil0] at h
    rw [txB_nil, ats_nil, List.map_nil]
    exact List.length_eq_zero_iff.1 (by omega)
  | r :: l, h => by
    obtain ⟨i1, i2⟩ := pts_txt l (fun x hx => h x (by simp [hx]))
    have hr : r.Ok := h r (by simp)
    have h0 : 0 ≤ cpl r.t := by unfold RunD.Ok at hr; omega
    obtain ⟨a1, a2⟩ := app_pts h0 i1
    rw [show r :: l = [r] ++ l from rfl, txB_append, txB_one, ← mk_app, mk_self, a1, a2, show [r] ++ l = r :: l from rfl, ats_cons, List.map_append, i2, RunD.ats, atG_z]
    exact ⟨by omega, rfl⟩
theorem apA_z (c q : Int) : ∀ (ds : List St) (A : List Atm) (n : Int), (apA c q A n ds).map Atm.z = apRun (A.map Atm.z) ds
  | [], A, n => rfl
  | .keep k :: ds, A, n => by rw [apA, apRun, List.map_append, apA_z c q ds, List.map_take, List.map_drop]
  | .rem k :: ds, A, n => by rw [apA, apRun, apA_z c q ds, List.map_drop]
  | .ins t :: ds, A, n => by rw [apA, apRun, List.map_append, apA_z c q ds, atG_z]
/-- Each atom behind a delta was there, or is new. -/
theorem apA_mem (c q : Int) : ∀ (ds : List St) (A : List Atm) (n : Int), (∀ s ∈ ds, s.Ok) → ∀ x ∈ apA c q A n ds, x ∈ A ∨ (x.c = c ∧ x.q = q ∧ n ≤ x.n ∧ x.n < n + isum ds)
  | [], A, n, _, x, h => by simp [apA] at h
  | .keep k :: ds, A, n, ho, x, h => by
    rw [apA, List.mem_append] at h
    rcases h with h | h
    · exact .inl (List.mem_of_mem_take h)
    · rcases apA_mem c q ds _ n (fun s hs => ho s (by simp [hs])) x h with g | g
      · exact .inl (List.mem_of_mem_drop g)
      · exact .inr g
  | .rem k :: ds, A, n, ho, x, h => by
    rw [apA] at h
    rcases apA_mem c q ds _ n (fun s hs => ho s (by simp [hs])) x h with g | g
    · exact .inl (List.mem_of_mem_drop g)
    · exact .inr g
  | .ins t :: ds, A, n, ho, x, h => by
    have ht : 0 < cpl t := (ho (.ins t) (by simp)).1
    have hp := isum_pos (ds := ds) (fun s hs => ho s (by simp [hs]))
    rw [apA, List.mem_append] at h
    rcases h with h | h
    · obtain ⟨a, b, d, e⟩ := atG_mem c q _ _ x h
      rw [pts_len (by omega)] at e
      exact .inr ⟨a, b, d, by rw [isum]; omega⟩
    · rcases apA_mem c q ds _ (n + cpl t) (fun s hs => ho s (by simp [hs])) x h with g | g
      · exact .inl g
      · exact .inr ⟨g.1, g.2.1, by omega, by rw [isum]; omega⟩
theorem atG_nodup (c q : Int) (zs : List Int) (n : Int) : ((atG c q n zs).map Atm.key).Nodup := by
  rw [atG_key, List.Nodup, List.pairwise_map]
  refine List.Pairwise.imp ?_ (List.pairwise_lt_range (n := zs.length))
  intro a b hab e
  simp only [Prod.mk.injEq, true_and] at e
  omega
theorem apA_nodup (c q : Int) : ∀ (ds : List St) (A : List Atm) (n : Int), (∀ s ∈ ds, s.Ok) → (A.map Atm.key).Nodup → (∀ x ∈ A, ¬ (x.c = c ∧ x.q = q)) → ((apA c q A n ds).map Atm.key).Nodup
  | [], A, n, _, _, _ => by simp [apA]
  | .keep k :: ds, A, n, ho, hn, hc => by
    have ho' : ∀ s ∈ ds, s.Ok := fun s hs => ho s (by simp [hs])
    have hn2 : ((A.drop k).map Atm.key).Nodup := hn.sublist ((List.drop_sublist _ _).map _)
    have i := apA_nodup c q ds (A.drop k) n ho' hn2 (fun x hx => hc x (List.mem_of_mem_drop hx))
    rw [apA, List.map_append]
    refine List.nodup_append.2 ⟨hn.sublist ((List.take_sublist _ _).map _), i, ?_⟩
    intro a ha b hb e
    subst e
    obtain ⟨x, hx, hxa⟩ := List.mem_map.1 ha
    obtain ⟨y, hy, hya⟩ := List.mem_map.1 hb
    have hk : x.key = y.key := hxa.trans hya.symm
    rcases apA_mem c q ds _ n ho' y hy with g | g
    · have := hn
      rw [← List.take_append_drop k A, List.map_append] at this
      exact (List.nodup_append.1 this).2.2 x.key (List.mem_map.2 ⟨x, hx, rfl⟩) y.key (List.mem_map.2 ⟨y, g, rfl⟩) hk
    · refine hc x (List.mem_of_mem_take hx) ?_
      simp only [Atm.key, Prod.mk.injEq] at hk
      exact ⟨hk.1.trans g.1, hk.2.1.trans g.2.1⟩
  | .rem k :: ds, A, n, ho, hn, hc => by
    rw [apA]
    exact apA_nodup c q ds (A.drop k) n (fun s hs => ho s (by simp [hs])) (hn.sublist ((List.drop_sublist _ _).map _)) (fun x hx => hc x (List.mem_of_mem_drop hx))
  | .ins t :: ds, A, n, ho, hn, hc => by
    have ho' : ∀ s ∈ ds, s.Ok := fun s hs => ho s (by simp [hs])
    have ht : 0 < cpl t := (ho (.ins t) (by simp)).1
    have i := apA_nodup c q ds A (n + cpl t) ho' hn hc
    rw [apA, List.map_append]
    refine List.nodup_append.2 ⟨atG_nodup c q _ _, i, ?_⟩
    intro a ha b hb e
    subst e
    obtain ⟨x, hx, hxa⟩ := List.mem_map.1 ha
    obtain ⟨y, hy, hya⟩ := List.mem_map.1 hb
    have hk : x.key = y.key := hxa.trans hya.symm
    simp only [Atm.key, Prod.mk.injEq] at hk
    obtain ⟨a1, a2, a3, a4⟩ := atG_mem c q _ _ x hx
    rw [pts_len (by omega)] at a4
    rcases apA_mem c q ds _ _ ho' y hy with g | g
    · exact hc y g ⟨hk.1.symm.trans a1, hk.2.1.symm.trans a2⟩
    · omega
/-- An answer without an error: what is known. -/
theorem dc_ok {l : List RunD} {ds : List OpD} {c q : Int} (h : dcE l ds c q = 0) : Good l ∧ chk ds = 0 ∧ bsum (stR ds) = num l ∧ orM c q = true ∧ l.any (orQ c q) = false ∧ dcL l ds c q = adR c q [] l 0 (stR ds) := by
  unfold dcE at h
  unfold dcL
  split at h
  · rename_i h1
    split at h
    · rename_i h2
      split at h
      · rename_i h3
        split at h
        · rename_i h4
          exact ⟨(good_iff l).1 h1, h2, h3, h4.1, h4.2, by rw [if_pos h1, if_pos h2, if_pos h3, if_pos h4]⟩
        · cases h
      · cases h
    · rename_i h2; exact absurd h h2
  · cases h
theorem dc_no {l : List RunD} {ds : List OpD} {c q : Int} (h : dcE l ds c q ≠ 0) : dcL l ds c q = [] := by
  unfold dcE at h
  unfold dcL
  split
  · rename_i h1
    rw [if_pos h1] at h
    split
    · rename_i h2
      rw [if_pos h2] at h
      split
      · rename_i h3
        rw [if_pos h3] at h
        split
        · rename_i h4
          rw [if_pos h4] at h
          exact absurd rfl h
        · rfl
      · rfl
    · rfl
  · rfl
theorem any_ats {l : List RunD} {c q : Int} (h : l.any (orQ c q) = false) : ∀ x ∈ ats l, ¬ (x.c = c ∧ x.q = q) := by
  intro x hx e
  simp only [ats, List.mem_flatten, List.mem_map] at hx
  obtain ⟨s, ⟨r, hr, rfl⟩, hx⟩ := hx
  obtain ⟨a, b, -, -⟩ := atG_mem _ _ _ _ x hx
  have := List.any_eq_false.1 h r hr
  apply this
  simp only [orQ, Bool.and_eq_true, decide_eq_true_eq]
  exact ⟨a.symm.trans e.1, b.symm.trans e.2⟩
/-- What Apply gives: its atoms; it may be; its text. -/
theorem dc_facts {l : List RunD} {ds : List OpD} {c q : Int} (hi : ∀ o ∈ ds, o.In) (h : dcE l ds c q = 0) :
    ats (dcL l ds c q) = apA c q (ats l) 0 (stR ds) ∧ Good (dcL l ds c q) ∧ apR (mk (txB l)) ds = (mk (txB (dcL l ds c q)), 0) := by
  obtain ⟨hG, h2, h3, h4, h5, h6⟩ := dc_ok h
  have hok := stR_ok hi
  have hrk : ∀ r ∈ l, r.Ok := fun r hr => (hG.fit r hr).ok
  obtain ⟨b1, b2⟩ := adR_ats c q (stR ds) [] l 0 trivial hrk hok
  rw [← h6, ats_nil, List.nil_append] at b2
  rw [← h6] at b1
  obtain ⟨g1, g2, g3, g4⟩ := good_ats.1 hG
  have hnm := num_ats hrk
  have hls := isum_le (stR ds) hok
  have hbd := (stR_bd ds).2
  obtain ⟨p1, p2⟩ := pts_txt l hrk
  obtain ⟨m1, m2⟩ := pts_txt (dcL l ds c q) b1.all
  have hrun : pts (mk (txB (dcL l ds c q))) = apRun (pts (mk (txB l))) (stR ds) := by rw [m2, b2, apA_z, p2]
  have hcp : cpl (mk (txB l)) = (num l : Int) := txt_cpl l hrk
  refine ⟨b2, good_ats.2 ⟨b1, fun x hx => ?_, ?_, ?_⟩, ?_⟩
  · rw [b2] at hx
    rcases apA_mem c q _ _ _ hok x hx with g | g
    · exact g2 x g
    · refine ⟨by rw [g.1, g.2.1]; exact h4, g.2.2.1, by have := g.2.2.2; omega⟩
  · rw [b2]
    exact apA_nodup c q _ _ _ hok g3 (any_ats h5)
  · have e : (ats (dcL l ds c q)).length = tsum (stR ds) := by
      have := apRun_len (stR ds) (pts (mk (txB l))) (by rw [p2, List.length_map, ← hnm, h3]; exact Nat.le_refl _)
      rw [← hrun, m2, List.length_map] at this
      exact this
    omega
  · unfold apR
    rw [if_neg (by omega), if_neg (by omega), if_neg (by rw [hcp, h3]; omega), ← hrun]
    exact congrArg (fun x => (x, (0 : Int))) (whole_eq (cpl_valid m1)).1
end Go.Proofs.YtjimolafoihnpaaDoor
