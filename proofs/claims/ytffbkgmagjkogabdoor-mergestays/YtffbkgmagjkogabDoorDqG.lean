/-
  The reference's Check.
-/
import Derived.Test.YtffbkgmagjkogabDoorDqB
import Derived.Test.YtffbkgmagjkogabDoorDpG
import Derived.Deep.CondSized
namespace Go.Proofs.YtffbkgmagjkogabDoor
open Go.ChangeShapes Go.WideShapes Go.ChangeAt Go.RowKit Go.PlainAid

theorem rdn_at {W : World} {ao : Option Addr} {N cp : Nat} {l : List RunD} (h : RdN W (.slice ao N cp) l) {k : Nat} {r : RunD} (hr : l[k]? = some r) : ∃ b off, ao = some ⟨b, off, none⟩ ∧ W.cell? ⟨b, off + k * 4, none⟩ = some (.int .i64 r.c) ∧ W.cell? ⟨b, off + k * 4 + 1, none⟩ = some (.int .i64 r.q) ∧ W.cell? ⟨b, off + k * 4 + 2, none⟩ = some (.int .i64 r.f) ∧ W.cell? ⟨b, off + k * 4 + 3, none⟩ = some (.string r.t) := by
  obtain ⟨b, off, e, -, h⟩ := h.at k r hr
  exact ⟨b, off, e, h⟩
theorem ck_dec {l : List RunD} {k : Nat} (hk : k < l.length) (h : Ck l (k + 1)) : orM l[k].c l[k].q = true ∧ 0 < cpl l[k].t ∧ 0 ≤ l[k].f ∧ l[k].f ≤ 1000 - cpl l[k].t := mayR_iff.1 (h.may k l[k] (by omega) (by simp [hk]))

end Go.Proofs.YtffbkgmagjkogabDoor

/-
  The reference's At.
-/
namespace Go.Proofs.YtffbkgmagjkogabDoor
open Go.ChangeShapes Go.WideShapes Go.ChangeAt Go.RowKit Go.PlainAid

/-- The atom's answer. -/
def atX : Option Atm → Int × Int × Int × Bool
  | some x => (x.c, x.q, x.n, true)
  | none => (0, 0, 0, false)
theorem atF_ats : ∀ (l : List RunD), (∀ r ∈ l, r.Ok) → ∀ i : Nat, atF l (i : Int) = atX (ats l)[i]?
  | [], _, i => by simp [atF, ats, atX]
  | r :: l, h, i => by
    have ho : r.Ok := h r (by simp)
    unfold RunD.Ok at ho
    have hpl := pts_len (t := r.t) (by omega)
    have hrl : r.ats.length = (pts r.t).length := by unfold RunD.ats; rw [atG_len]
    rw [atF, ats_cons]
    by_cases hi : (i : Int) < cpl r.t
    · rw [if_pos hi, List.getElem?_append_left (by omega)]
      unfold RunD.ats
      rw [atG_at r.c r.q (pts r.t) r.f i ((pts r.t)[i]'(by omega)) (by simp [show i < (pts r.t).length by omega])]
      rfl
    · rw [if_neg hi, List.getElem?_append_right (by omega), hrl, show (i : Int) - cpl r.t = ((i - (pts r.t).length : Nat) : Int) by omega]
      exact atF_ats l (fun x hx => h x (by simp [hx])) _

end Go.Proofs.YtffbkgmagjkogabDoor

/-
  Documents that came in, of bulk at most 1048576, opened.
-/
namespace Go.Proofs.YtffbkgmagjkogabDoor
open Go.RowKit Go.ChangeShapes Go.WideShapes Go.ChangeAt Go.PlainAid

theorem bulk_pos {H : Type} (d : DataW H) : 1 ≤ Rows.uptoBulk d := by
  cases d with
  | lit l => cases l <;> simp [Rows.uptoBulk]
  | _ => simp [Rows.uptoBulk]
theorem bulk_mem {H : Type} : ∀ {l : List (DataW H)} {d : DataW H}, d ∈ l → Rows.uptoBulk d ≤ Rows.uptoBulkAll l
  | x :: r, d, hd => by
    simp only [Rows.uptoBulkAll]
    rcases List.mem_cons.1 hd with rfl | h
    · omega
    · have := bulk_mem h; omega
theorem up_mem {H : Type} {ds : List (DataW H)} {d : DataW H} (hk : Rows.uptoSmall H ds = true) (h : d ∈ ds) : Rows.uptoBulk d ≤ 1048576 := by
  have h1 : Rows.uptoBulkAll ds ≤ 1048576 := by simpa [Rows.uptoSmall] using hk
  have := bulk_mem h
  omega
theorem bulk_runs {H : Type} : ∀ (l : List RunD) (ds : List (DataW H)), ds.length = l.length → (∀ (i : Nat) r d, l[i]? = some r → ds[i]? = some d → ∃ d0 d1 : DataW H, d = .agg [d0, d1, .lit (.string r.t.data.toList)]) → l.length + (txB l).length ≤ Rows.uptoBulkAll ds
  | [], _, _, _ => by simp [txB]
  | r :: l, [], h, _ => by simp at h
  | r :: l, d :: ds, h, hd => by
    have h1 := bulk_runs l ds (by simpa using h) (fun i r d a b => hd (i + 1) r d (by simpa using a) (by simpa using b))
    obtain ⟨d0, d1, rfl⟩ := hd 0 r d (by simp) (by simp)
    have e : txB (r :: l) = r.t.data.toList ++ txB l := by simp [txB]
    rw [e, List.length_append, List.length_cons]
    simp only [Rows.uptoBulkAll, Rows.uptoBulk]
    omega

set_option maxRecDepth 20000 in
/-- Runs, out of their value, with their data. -/
theorem open_rni {H : Type} {enc : TypeId × Value → H} {w : World} {spare : Nat → Bool} {held : Bool} {fuel : Nat} {ao : Option Addr} {len cap : Nat} {x : DataW H × List MemPlace}
    (h : DataW.trod enc Tryd.prog w 0 spare held fuel 22 (Value.slice ao len cap).cells.toList = some x) :
    ∃ l : List RunD, RdN w (.slice ao len cap) l ∧ (∀ r ∈ l, r.Bd) ∧ (l = [] ∨ ∃ (D : Nat → DataW H) (sp : List (DataW H)), x.1 = .slice ((List.range l.length).map D) sp ∧ ∀ i r, l[i]? = some r → ∃ d0 d1 : DataW H, D i = .agg [d0, d1, .lit (.string r.t.data.toList)]) := by
  rcases Go.Deep.open_slice Tryd.underlying22 h with ⟨hcs, _⟩ | ⟨a, l, c, m, n, D, Pl, hcs, _, hl, hmx, hmm, hx, hall⟩
  · simp [Value.cells] at hcs
    obtain ⟨rfl, rfl, rfl⟩ := hcs
    exact ⟨[], RdN.nil w, by simp, .inl rfl⟩
  · simp [Value.cells] at hcs
    obtain ⟨rfl, rfl, rfl⟩ := hcs
    have hlm : len ≤ m := by rw [hmm]; split <;> omega
    have h4 : Tryd.prog.cellsOf 43 = 4 := by kernel_rfl
    rw [h4] at hall
    obtain ⟨b, off, spot⟩ := a
    have hsp : ∀ i, i < len → spot = none := by
      intro i hi
      obtain ⟨cs', h1, h2⟩ := hall 0 (by omega)
      obtain ⟨o, _, _, rfl, _⟩ := open_rn h2
      obtain ⟨_, _, hcell⟩ := World.cells?_some h1
      have e0 := hcell 0 (by omega)
      simp at e0
      have := World.cell?_spot e0
      simpa [Addr.add] using this
    have each : ∀ i, i < len → ∃ o : RunD, (o.Bd ∧ ∃ d0 d1 : DataW H, D i = .agg [d0, d1, .lit (.string o.t.data.toList)]) ∧ spot = none ∧ b < w.heap.size ∧ w.cell? ⟨b, off + i * 4, none⟩ = some (.int .i64 o.c) ∧ w.cell? ⟨b, off + i * 4 + 1, none⟩ = some (.int .i64 o.q) ∧ w.cell? ⟨b, off + i * 4 + 2, none⟩ = some (.int .i64 o.f) ∧ w.cell? ⟨b, off + i * 4 + 3, none⟩ = some (.string o.t) := by
      intro i hi
      obtain ⟨cs', h1, h2⟩ := hall i (by omega)
      obtain ⟨o, d0, d1, rfl, ho, hd⟩ := open_rn h2
      obtain ⟨_, _, hcell⟩ := World.cells?_some h1
      have e0 := hcell 0 (by omega)
      have e1 := hcell 1 (by omega)
      have e2 := hcell 2 (by omega)
      have e3 := hcell 3 (by omega)
      rw [Go.Deep.add_add] at e0 e1 e2 e3
      simp at e0 e1 e2 e3
      obtain rfl := hsp i hi
      have hadd : ∀ k, (⟨b, off, none⟩ : Addr).add k = ⟨b, off + k, none⟩ := fun k => by unfold Addr.add; split <;> simp_all
      rw [hadd] at e0 e1 e2 e3
      simp only at hd
      exact ⟨o, ⟨ho, d0, d1, hd⟩, rfl, World.block_lt_of_cell? w _ e0, e0, by rw [Nat.add_assoc]; exact e1, by rw [Nat.add_assoc]; exact e2, by rw [Nat.add_assoc]; exact e3⟩
    obtain ⟨f, hf⟩ := @Go.Deep.choose_lt RunD ⟨⟨0, 0, 0, ⟨#[]⟩⟩⟩ _ _ each
    have hlen : ((List.range len).map f).length = len := by simp
    refine ⟨(List.range len).map f, ⟨some ⟨b, off, spot⟩, cap, by rw [hlen], by rw [hlen]; omega, fun i o ho => ?_⟩, fun o ho => ?_, .inr ⟨D, _, by rw [hlen, hx], fun i r hr => ?_⟩⟩
    · have hi : i < len := by
        have := (List.getElem?_eq_some_iff.1 ho).1
        simpa using this
      simp [hi] at ho
      subst ho
      obtain ⟨_, rfl, r⟩ := hf i hi
      exact ⟨b, off, rfl, r⟩
    · obtain ⟨i, hi, rfl⟩ := List.mem_map.1 ho
      exact (hf i (List.mem_range.1 hi)).1.1
    · have hi : i < len := by
        have := (List.getElem?_eq_some_iff.1 hr).1
        simpa using this
      simp [hi] at hr
      subst hr
      exact (hf i hi).1.2


theorem open_rnu {H : Type} {enc : TypeId × Value → H} {w : World} {spare : Nat → Bool} {held : Bool} {fuel : Nat} {ao : Option Addr} {len cap : Nat} {x : DataW H × List MemPlace}
    (h : DataW.trod enc Tryd.prog w 0 spare held fuel 22 (Value.slice ao len cap).cells.toList = some x) (hz : Rows.uptoBulk x.1 ≤ 1048576) :
    ∃ l : List RunD, RdN w (.slice ao len cap) l ∧ (l.length ≤ 1048576 ∧ (txB l).length ≤ 1048576) ∧ ∀ r ∈ l, r.Bd := by
  obtain ⟨l, h1, h2, h3⟩ := open_rni h
  refine ⟨l, h1, ?_, h2⟩
  rcases h3 with rfl | ⟨D, sp, hx, hD⟩
  · simp [txB]
  · rw [hx] at hz
    simp only [Rows.uptoBulk] at hz
    have := bulk_runs l ((List.range l.length).map D) (by simp) (fun i r d a b => by
      have hi : i < l.length := (List.getElem?_eq_some_iff.1 a).1
      simp [hi] at b
      rw [← b]
      exact hD i r a)
    omega
end Go.Proofs.YtffbkgmagjkogabDoor
