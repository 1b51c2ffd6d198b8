/-
  Contracts: maps.Copy of sectors, Sync.
-/
import Derived.Test.YtkmdjhdininimaaDevW
namespace Go.Proofs.Ytkmdjhdininimaa
open Go.RowKit Go.Maps

set_option maxRecDepth 20000 in
set_option maxHeartbeats 4000000 in
/-- maps.Copy: src's sectors over dst's. -/
theorem copy_any {w : World} {bd bs N : Nat} {f g : SecF} (hd : w.ownsMap Try.prog 3 secR bd N (DF N f)) (hs : w.ownsMap Try.prog 3 secR bs N (DF N g)) (hne : bd ≠ bs) (hN : N ≤ 8192) :
    Calls Try.prog 31 #[.map (some bd), .map (some bs)] w fun e w' => e = .returned (.tuple #[]) ∧ w'.ownsMap Try.prog 3 secR bd N (DF N (orF g f)) ∧ Only [bd] w w' := by
  have hbd := hd.lt
  have hbs := hs.lt
  have hroom := size_DF N g
  have hroom2 : N + Maps.size (DF N g) < maxLen := by unfold maxLen; omega
  go_enter Try.func31, Try.ntmps31
  go_wp2_with (first
    | (at_range; refine wpList_range_own _ rfl _ 58 rfl 3 63 keyed Try.underlying58 secR bs N _ rfl hs ?_; intro w0 hrg0 hg0 hs0)
    | go_in)
  go_frame
  go_loopw [8] (fun _ wr => ∃ (left : Lit → Bool) (cnt : Nat) (Dout : DataW Unit), wr.ranges Try.prog 3 secR bs w.heap.size N (DF N g) left cnt ∧ cnt ≤ Maps.size (DF N g) ∧
      wr.ownsMap Try.prog 3 secR bd (N + (Maps.size (DF N g) - cnt)) Dout ∧ Merged Dout (DF N f) (DF N g) left ∧ w.grownBy wr (some bd))
    (fun _ wr => wr.rangeLeft bs w.heap.size)
  case atStart =>
    exact ⟨_, _, DF N f, hrg0, Nat.le_refl _, (hd.kept hg0 (by simp)).mono (by omega), merged_start _ _, hg0.but _⟩
  case round =>
    obtain ⟨left, cnt, Dout, hrg, hcs, hout, hM, hgw⟩ := hrel
    go_wp2_with (first
      | (at_next; refine wpList_next_ranges _ rfl _ rfl 3 keyed secR id id (fun key _ _ => ⟨key, rfl⟩) (fun v _ _ => ⟨v, rfl⟩) bs w.heap.size N _ _ _ rfl hrg ?_ ?_)
      | go_in)
    · intro hc0 hl0
      go_wp2
      go_end0
      have e := merged_DF hM hl0 (hout.canon keyed)
      subst e
      exact ⟨rfl, tight hout, Only.of_grown hgw (by simp)⟩
    · intro x c kl yd yp w1 cnt1 hkey hlx hv hat hrg1 hlt hg1 hs1 hen
      obtain ⟨xi, rfl, rfl, hwf⟩ := Maps.keyOf_int_inv Try.underlying3 hkey
      obtain ⟨s, rfl, hs64, hz⟩ := secR_inv hv
      have hsz : (bv s).length = 64 := by rw [bv_len, hs64]
      have hout1 := (hout.kept hg1 (fun e => by have := Option.some.inj e; omega)).alloc (.cells (bv s).toArray 63)
      have hcell := heap_alloc_last w1 (.cells (bv s).toArray 63)
      have hrm : N + (Maps.size (DF N g) - cnt) < maxLen := by omega
      have HV : Hid (secR (secV s) = some (yd, yp)) := hv
      clear hv hwf hz hrg0 hg0 hs0 hs1
      unfold secV at hen
      go_wp2_with (first
        | (at_mapUpdate; refine wpList_mapUpdate_own _ rfl _ _ _ 58 rfl 3 63 keyed Try.underlying58 secR bd _ _ rfl hout1 hrm _ _ _ rfl rfl hkey yd yp HV.out ?_; intro w2 hout2 hg2; go_frame)
        | (with_reducible refine at_alloc 63 rfl ?_; refine wpList_alloc_arr rfl 63 rfl zeroC.toArray Try.zeroB ?_)
        | (with_reducible refine at_store 63 _ _ rfl ?_; refine wpList_store_new _ rfl 63 _ _ rfl zeroC.toArray (bv s).toArray rfl rfl rfl (by simpa [hsz] using Try.sizeB) (by simp [zeroC_len, hsz]) (bv_one s) ?_)
        | (with_reducible refine at_load 63 _ rfl ?_; refine wpList_load_row rfl 63 _ rfl _ 63 _ _ _ hcell rfl Try.underlying63 rfl (by simpa [hsz] using Try.sizeB) ?_)
        | go_in)
      have hrg2 := (hrg1.alloc (.cells (bv s).toArray 63)).kept hg2 (fun e => hne (Option.some.inj e).symm) (fun e => by have := Option.some.inj e; omega)
      have hgn : w.grownBy w2 (some bd) := ((hgw.andThen hg1 (fun j hj => .inl (by cases hj; exact Nat.le_refl _))).andThen (World.grownBy_alloc w1 _ none) (fun j hj => by cases hj)).andThen hg2 (fun j hj => .inr hj)
      have hMn := merged_step hM hout.isMap (keyed.key hkey) hat
      go_roundw
      case rel =>
        exact ⟨_, cnt1, _, hrg2, by omega, hout2.mono (by omega), hMn, hgn⟩
      case measure => rw [hrg2.left_eq, hrg.left_eq]; exact hlt

/-- All that waits is safe. -/
def DevS.synced (s : DevS) : DevS := { s with safe := orF s.waits s.safe, waits := fun _ => none }

theorem full_or {f g : SecF} (hf : Full f) (hg : Full g) : Full (orF g f) := by
  intro i t h
  unfold orF at h
  cases hgi : g i with
  | none => rw [hgi] at h; exact hf i t (by simpa using h)
  | some u => rw [hgi] at h; simp at h; subst h; exact hg i u hgi

theorem full_none : Full (fun _ => none) := fun i t h => by cases h

theorem IsDev.cleared {w w1 w2 : World} {p bs bw : Nat} {s : DevS} {f : SecF} (h : IsDev w p bs bw s) (h1 : w1.ownsMap Try.prog 3 secR bs s.n (DF s.n f)) (o1 : Only [bs] w w1) (h2 : w2.ownsMap Try.prog 3 secR bw s.n (.map [])) (o2 : Only [bw] w1 w2) (hf : Full f) :
    IsDev w2 p bs bw { s with safe := f, waits := fun _ => none } := by
  refine ⟨only_heap (only_heap h.str o1 (by simp [h.ps])) o2 (by simp [h.pw]), ownsMap_only h1 o2 (by simp [h.ne]), ?_, h.ne, h.lo, h.hi, h.fz0, h.fz1, h.ag0, h.ag1, hf, full_none⟩
  have e : DF s.n (fun _ => none) = .map [] := DF_none s.n
  show w2.ownsMap Try.prog 3 secR bw s.n (DF s.n (fun _ => none))
  rw [e]
  exact h2

set_option maxHeartbeats 400000 in
theorem sync_down {w : World} {p bs bw : Nat} {s : DevS} (h : IsDev w p bs bw s) (hu : s.up = false) :
    Calls Try.prog 12 #[.pointer (some ⟨p, 0, none⟩)] w fun e w' => e = .returned (.int .i64 3) ∧ w' = w := by
  have hb := up_any h
  rw [hu] at hb
  clear h hu
  go_enter Try.func12, Try.ntmps12
  go_wp2_with (first | (go_at_call 28; refine hb.mono ?_; rintro e w' ⟨rfl, rfl⟩))
  go_ret
  exact ⟨rfl, rfl⟩

set_option maxRecDepth 20000 in
set_option maxHeartbeats 1000000 in
theorem sync_ok {w : World} {p bs bw : Nat} {s : DevS} (h : IsDev w p bs bw s) (hu : s.up = true) :
    Calls Try.prog 12 #[.pointer (some ⟨p, 0, none⟩)] w fun e w' => e = .returned (.int .i64 0) ∧ IsDev w' p bs bw { s.synced with fuse := burnt s.fuse } ∧ Only [p, bs, bw] w w' := by
  have hb := up_any h
  rw [hu] at hb
  have hO : Only [p, bs, bw] w w.drew := Only.drew _ _
  have hD : IsDev w.drew p bs bw s := h.kept (Only.drew [] w) (by simp) (by simp) (by simp)
  have cC := copy_any hD.safe hD.waits hD.ne hD.hi
  have hc1 := h.c1
  have hc2 := h.c2
  have hb' : Hid (IsDev w.drew p bs bw s) := hD
  clear h hu hD
  go_enter Try.func12, Try.ntmps12
  go_wp2_with (first | (go_at_call 28; refine hb.mono ?_; rintro e w' ⟨rfl, hw⟩; subst hw))
  clear hb
  refine region_tail 8 Try.mixed (by kernel_rfl) ?_
  simp only [List.take_succ_cons, List.take_zero, List.drop_succ_cons, List.drop_zero]
  iterate 8 still_step
  refine wpStill_nil ?_
  clear hc1 hc2
  go_wp2_with fail
  refine cC.mono ?_
  rintro e w1 ⟨rfl, hm1, ho1⟩
  clear cC
  have hD := hb'.out
  have hc2 : w1.cell? ⟨p, 2, none⟩ = some (.map (some bw)) := by rw [cell_at (only_heap hD.str ho1 (by simp [hD.ps]))]; rfl
  have hw1 := ownsMap_only hD.waits ho1 (by simp [hD.ne.symm])
  have hfin : ∀ w2, w2.ownsMap Try.prog 3 secR bw s.n (.map []) → Only [bw] w1 w2 → Calls Try.prog 30 #[.pointer (some ⟨p, 0, none⟩)] w2 fun e w' => e = .returned (.tuple #[]) ∧ IsDev w' p bs bw { s.synced with fuse := burnt s.fuse } ∧ Only [p] w2 w' :=
    fun w2 h2 o2 => burn_any (hD.cleared hm1 ho1 h2 o2 (full_or hD.fs hD.fw))
  clear hD hb'
  go_wp2_with (first
    | (with_reducible refine at_bi .clear _ _ rfl ?_; refine wpList_clear_own rfl _ 58 rfl 3 63 Try.underlying58 secR bw s.n _ rfl hw1 ?_; intro w2 hm2 hg2; have ho2 : Only [bw] w1 w2 := Only.of_grown hg2 (by simp); go_frame)
    | (go_at_call 30; refine (hfin _ hm2 ho2).mono ?_; rintro e w3 ⟨rfl, hd3, ho3⟩))
  go_ret
  exact ⟨rfl, hd3, ((hO.trans (ho1.mono (by simp))).trans (ho2.mono (by simp))).trans (ho3.mono (by simp))⟩
end Go.Proofs.Ytkmdjhdininimaa
