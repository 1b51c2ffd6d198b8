/-
  gc: Needed and Sweep.
-/
import Derived.Test.YthhdpabelcgfjaaGcD
import Derived.Test.YthhdpabelcgfjaaLay
namespace Go.Proofs.Ythhdpabelcgfjaa
open Go.Maps Go.ChangeShapes Go.WideShapes Go.ChangeAt Go.RowKit Go.PlainAid Go.Sort Go.Shelf

/-- The list of the needed numbers, in order. -/
def SrtNeed (cs : List CoD) (bs : List BrD) (L : List Int) : Prop := L.Pairwise (· < ·) ∧ ∀ n, n ∈ L ↔ NeedC cs bs n
theorem srt_eq : ∀ {L K : List Int}, L.Pairwise (· < ·) → K.Pairwise (· < ·) → (∀ n, n ∈ L ↔ n ∈ K) → L = K
  | [], [], _, _, _ => rfl
  | [], y :: K, _, _, h => by have := (h y).2 (List.mem_cons_self ..); cases this
  | x :: L, [], _, _, h => by have := (h x).1 (List.mem_cons_self ..); cases this
  | x :: L, y :: K, hL, hK, h => by
    rw [List.pairwise_cons] at hL hK
    have e : x = y := by
      rcases List.mem_cons.1 ((h x).1 (List.mem_cons_self ..)) with e | hx
      · exact e
      · rcases List.mem_cons.1 ((h y).2 (List.mem_cons_self ..)) with e | hy
        · exact e.symm
        · have h1 := hK.1 x hx
          have h2 := hL.1 y hy
          omega
    subst e
    have hr : L = K := srt_eq hL.2 hK.2 (fun n => by
      constructor
      · intro hn
        rcases List.mem_cons.1 ((h n).1 (List.mem_cons_of_mem _ hn)) with e | h1
        · have := hL.1 n hn; omega
        · exact h1
      · intro hn
        rcases List.mem_cons.1 ((h n).2 (List.mem_cons_of_mem _ hn)) with e | h1
        · have := hK.1 n hn; omega
        · exact h1)
    rw [hr]
theorem srtneed_eq {cs : List CoD} {bs : List BrD} {L K : List Int} (h : SrtNeed cs bs L) (k : SrtNeed cs bs K) : L = K := srt_eq h.1 k.1 (fun n => (h.2 n).trans (k.2 n).symm)
theorem sortsZ (m : Nat) : AnyZI.SortsIn Try.prog Try.sortedA_ren Fence.wide m :=
  ⟨fun blk off cap ss W hH hblk hsz => callsIn_wide.2 (AnyM.slices_Sort_int Try.sortA blk off cap ss W hH hblk hsz),
   fun p cap W => callsIn_wide.2 (AnyM.slices_Sort_int_none Try.sortA p cap W)⟩
/-- A set's keys are its numbers. -/
theorem keys_perm {W : World} {b n : Nat} {D : DataW Unit} {M : List Int} (h : W.ownsMap Try.prog 3 unitElem b n D) (hh : ∀ k : Int, has D (.int .i64 k) = decide (k ∈ M)) (hM : M.Nodup) : M.Perm (intKeys D) := by
  have hc : CollectedI D (fun _ => false) M := ⟨hM, fun x => by rw [hh x]; simp⟩
  exact hc.perm h keyedZ Try.underlying3 (fun _ => rfl)
theorem srt_of {cs : List CoD} {bs : List BrD} {M ss : List Int} (hM : IsNeed cs bs M) (hp : ss.Perm M) : SrtNeed cs bs (ss.mergeSort leI) := by
  have tr : ∀ a b c : Int, leI a b = true → leI b c = true → leI a c = true := fun a b c h1 h2 => by simp only [leI, decide_eq_true_eq] at *; omega
  have tot : ∀ a b : Int, (leI a b || leI b a) = true := fun a b => by simp only [leI, Bool.or_eq_true, decide_eq_true_eq]; omega
  have h1 := List.pairwise_mergeSort tr tot ss
  have h2 := (List.mergeSort_perm ss leI).trans hp
  have hnd : (ss.mergeSort leI).Nodup := (h2.nodup_iff).2 hM.nd
  refine ⟨?_, fun n => (h2.mem_iff).trans (hM.iff n)⟩
  refine (h1.and hnd).imp ?_
  rintro a b ⟨h3, h4⟩
  simp only [leI, decide_eq_true_eq] at h3
  omega
set_option maxRecDepth 20000 in
set_option maxHeartbeats 1000000 in
theorem needed_any {up : Bool} (S : StD) (v1 v2 v3 : Value) (w : World) (hr : RdSt w v1 v2 v3 S) (hU : StU up S) :
    Calls Try.prog 7 #[.agg (S.fs v1 v2 v3)] w fun e w' => ∃ u L, e = .returned u ∧ w'.ownsRow w.heap.size 3 1 u L.length (ivs L) ∧ SrtNeed S.cs S.bs L ∧ Below w.heap.size w w' := by
  refine (callsIn_wide (n := 6)).1 ?_
  obtain ⟨a1, k1, e1, -⟩ := id hr.c
  subst e1
  obtain ⟨a2, k2, e2, -⟩ := id hr.b
  subst e2
  obtain ⟨a3, k3, e3, -⟩ := id hr.u
  subst e3
  have hp0 := sb_new w S (.slice a1 S.cs.length k1) (.slice a2 S.bs.length k2) (.slice a3 S.us.length k3)
  have hb0 := alloc_bR w (.cells (S.fs (.slice a1 S.cs.length k1) (.slice a2 S.bs.length k2) (.slice a3 S.us.length k3)) 26)
  have cM := marked_any S _ _ _ _ (hr.below hb0) hU
  have hlc := hU.cl.1
  obtain ⟨x0, x1, x2, x3, x4⟩ := cellsSB hp0
  simp only [StD.fs] at *
  clear hr hU hp0
  have cK : ∀ mb W, CallsIn Fence.wide 5 Try.prog 19 #[.map mb] W fun e w' => e = .returned (.func (.func 35) #[] #[.pointer (some ⟨W.heap.size, 0, none⟩)]) ∧ w' = W.alloc (.cells #[.map mb] 55) := fun mb W => AnyZI.keys_in Try.keysA Fence.wide 5 trivial rfl mb W
  have hfK : Fence.wide.fn 19 := trivial
  have hfS : Fence.wide.fn 18 := trivial
  have hfM : Fence.wide.fn 20 := trivial
  refine callsIn_of_wp Try.func7 rfl trivial ?_ rfl
  simp only [Try.ntmps7, List.size_toArray, List.length_cons, List.length_nil, Nat.reduceAdd, Nat.reduceSub, Array.replicate_succ, Array.replicate_zero, List.push_toArray, List.append_toArray, List.nil_append, List.cons_append]
  gi_wp2_with (gi_at_call 20; refine (callsIn_wide.2 cM).mono ?_; rintro e w2 ⟨b, M, rfl, hk, hN, hbb, hb2⟩)
  have hb02 := hb0.trans (hb2.mono hb0.size)
  have hML : M.length ≤ S.cs.length := by
    have := nodup_len (K := S.cs.map CoD.n) hN.nd (fun n hn => (fdC_mem S.cs n).1 ((hN.iff n).1 hn).fd)
    simpa using this
  obtain ⟨D, hown, hh⟩ := hk
  have hsz := hown.size_le
  have hpm := keys_perm hown hh hN.nd
  have hmax : Maps.size D ≤ maxLen := by unfold maxLen; omega
  have hbytes : Maps.size D * 8 ≤ 140737488355328 := by omega
  have hseq : SeqGives Fence.wide 2 Try.prog 35 #[.pointer (some ⟨w2.heap.size, 0, none⟩)] encZ (fun ss => ss.Perm (intKeys D)) (Maps.size D) (w2.alloc (.cells #[.map (some b)] 55)) :=
    AnyZI.keys_gives (ρ := Try.keysA_ren) { Try.keysA with } Fence.wide _ trivial rfl (by omega) w2.heap.size b M.length D _ (by simp) (by simp) (hown.alloc _)
  have cS := AnyZI.sorted_in Try.sortedA Fence.wide 5 trivial trivial trivial trivial rfl (by omega) (sortsZ _) (enters_of Try.func34 (by kernel_rfl) rfl) 35 #[.pointer (some ⟨w2.heap.size, 0, none⟩)] trivial (enters_of Try.func35 (by kernel_rfl) rfl) _ _ hmax hbytes _ hseq
  change CallsIn _ _ Try.prog 18 _ _ _ at cS
  have hal := alloc_bR w2 (.cells #[.map (some b)] 55)
  have hb03 := hb02.trans (hal.mono hb02.size)
  clear hseq hmax hbytes hsz hown hh hML x0 x1 x2 x3 x4 hb0 hb2 cM hal
  refine (cK _ _).mono ?_
  rintro e w3 ⟨rfl, rfl⟩
  gi_wp2_with fail
  refine cS.mono ?_
  rintro e w4 ⟨v, ss, rfl, hS, hrow, hnil, hb4⟩
  gi_wp2_with fail
  go_ret
  have hL := srt_of hN (hS.trans hpm.symm)
  have hll : (ss.mergeSort leI).length = ss.length := List.length_mergeSort ss
  refine ⟨v, ss.mergeSort leI, rfl, ?_, hL, hb03.trans (hb4.mono hb03.size)⟩
  rw [hll]
  exact own_lower hrow hb03.size
/-- The commits that are kept. -/
def kept (M : List Int) (cs : List CoD) : List CoD := cs.filter fun x => decide (x.n ∈ M)
theorem map_keep (M : List Int) : ∀ Z : List ZC, (Z.filter (inM M)).map (·.1) = kept M (Z.map (·.1))
  | [] => rfl
  | z :: Z => by
    have := map_keep M Z
    unfold kept at this ⊢
    by_cases h : z.1.n ∈ M
    · simp [inM, h, this]
    · simp [inM, h, this]
set_option maxRecDepth 20000 in
set_option maxHeartbeats 3000000 in
theorem sweep_any {up : Bool} (S : StD) (v1 v2 v3 : Value) (w : World) (hr : RdSt w v1 v2 v3 S) (hU : StU up S) :
    Calls Try.prog 8 #[.agg (S.fs v1 v2 v3)] w fun e w' => ∃ u1 u2 u3 M, e = .returned (.tuple #[.agg ((StD.mk S.nc S.nb (kept M S.cs) S.bs S.us).fs u1 u2 u3), .int .i64 ((S.cs.length : Int) - ((kept M S.cs).length : Int))]) ∧ IsNeed S.cs S.bs M ∧ (∃ us ls, OwSt w' w.heap.size u1 u2 u3 ⟨S.nc, S.nb, kept M S.cs, S.bs, S.us⟩ us ls) ∧ Below w.heap.size w w' := by
  obtain ⟨a1, k1, e1, -⟩ := id hr.c
  subst e1
  obtain ⟨a2, k2, e2, -⟩ := id hr.b
  subst e2
  obtain ⟨a3, k3, e3, -⟩ := id hr.u
  subst e3
  have hp0 := sb_new w S (.slice a1 S.cs.length k1) (.slice a2 S.bs.length k2) (.slice a3 S.us.length k3)
  have hb0 := alloc_bR w (.cells (S.fs (.slice a1 S.cs.length k1) (.slice a2 S.bs.length k2) (.slice a3 S.us.length k3)) 26)
  have hr1 := sb_new (w.alloc (.cells (S.fs (.slice a1 S.cs.length k1) (.slice a2 S.bs.length k2) (.slice a3 S.us.length k3)) 26)) zeroS (.slice none 0 0) (.slice none 0 0) (.slice none 0 0)
  have hb1 := alloc_bR (w.alloc (.cells (S.fs (.slice a1 S.cs.length k1) (.slice a2 S.bs.length k2) (.slice a3 S.us.length k3)) 26)) (.cells (zeroS.fs (.slice none 0 0) (.slice none 0 0) (.slice none 0 0)) 26)
  have hp1 := hp0.below hb1
  have hbb := hb0.trans (hb1.mono (by simp))
  rw [World.size_alloc] at hr1
  have cM := fun W (h : Below w.heap.size w W) => marked_any S _ _ _ W (hr.below h) hU
  have cC := fun W (h : Below w.heap.size w W) => copyState_any S _ _ _ W (hr.below h) hU
  have hci : ∀ x ∈ S.cs, InI x.n := fun x hx => (hU.co x hx).2.2.2.2.1
  have hlc := hU.cl.1
  clear hr hU hp0 hb0 hb1
  obtain ⟨nc, nb, cs, bs, us⟩ := S
  simp only [StD.fs, zeroS] at *
  obtain ⟨x0, x1, x2, x3, x4⟩ := cellsSB hp1
  go_enter Try.func8, Try.ntmps8
  go_wp2_with fail
  generalize ((w.alloc (.cells #[.int .i64 nc, .int .i64 nb, .slice a1 cs.length k1, .slice a2 bs.length k2, .slice a3 us.length k3] 26)).alloc (.cells #[.int .i64 0, .int .i64 0, .slice none 0 0, .slice none 0 0, .slice none 0 0] 26)) = w1 at *
  refine (cM w1 hbb).mono ?_
  rintro e w2 ⟨b, M, rfl, hk, hN, hbb', hb2⟩
  have hp2 := hp1.below hb2
  have hr2 := hr1.below hb2
  have hbb2 := hbb.trans (hb2.mono hbb.size)
  have hal := alloc_bR w2 (.cells #[.map (some b)] 55)
  have hm3 := heap_alloc_new w2 (.cells #[.map (some b)] 55)
  have hp3 := hp2.below hal
  have hr3 := hr2.below hal
  have hk3 := hk.below hal
  have hbb3 := hbb2.trans (hal.mono hbb2.size)
  clear x0 x1 x2 x3 x4 cM hp1 hr1 hbb hp2 hr2 hbb2 hb2 hk hal
  go_upto_region 2 with fail
  generalize hP : w2.heap.size = P at *
  generalize w2.alloc (.cells #[.map (some b)] 55) = w3 at *
  obtain ⟨x0, x1, x2, x3, x4⟩ := cellsSB hp3
  go_wp2_with fail
  refine (cC w3 hbb3).mono ?_
  rintro e w4 ⟨u1, u2, u3, rfl, ⟨uc, ul, ho⟩, hb4⟩
  obtain ⟨aC, kC, rfl⟩ := own_form ho.c.row
  obtain ⟨aB, kB, rfl⟩ := own_form ho.b.row
  obtain ⟨aU, kU, rfl⟩ := own_form ho.u
  have hp4 := hp3.below hb4
  have hr4 := hr3.below hb4
  have hk4 := hk3.below hb4
  have hm4 := (hb4.block _ (heap_lt hm3)).trans hm3
  have hbb4 := hbb3.trans (hb4.mono hbb3.size)
  have hal := alloc_bR w4 (.cells #[.int .i64 nc, .int .i64 nb, .slice aC cs.length kC, .slice aB bs.length kB, .slice aU us.length kU] 26)
  have hq5 : SB (w4.alloc (.cells #[.int .i64 nc, .int .i64 nb, .slice aC cs.length kC, .slice aB bs.length kB, .slice aU us.length kU] 26)) w4.heap.size ⟨nc, nb, cs, bs, us⟩ (.slice aC cs.length kC) (.slice aB bs.length kB) (.slice aU us.length kU) := sb_new w4 ⟨nc, nb, cs, bs, us⟩ _ _ _
  have hp5 := hp4.below hal
  have hr5 := hr4.below hal
  have hk5 := hk4.below hal
  have hm5 := (hal.block _ (heap_lt hm4)).trans hm4
  have hbb5 := hbb4.trans (hal.mono hbb4.size)
  have ho5 := ho.below hal
  have hz3 := hbb3.size
  have hpq : w.heap.size < w4.heap.size := heap_lt hp4
  have hrq : w.heap.size + 1 < w4.heap.size := heap_lt hr4
  clear x0 x1 x2 x3 x4 cC hp3 hr3 hbb3 hp4 hr4 hbb4 hb4 hk3 hk4 hm3 hm4 ho hal
  go_upto_region 3 with fail
  generalize hQ : w4.heap.size = Q at *
  generalize w4.alloc (.cells #[.int .i64 nc, .int .i64 nb, .slice aC cs.length kC, .slice aB bs.length kB, .slice aU us.length kU] 26) = w5 at *
  obtain ⟨x0, x1, x2, x3, x4⟩ := cellsSB hq5
  have hoC : OwCo w5 w3.heap.size (.slice aC cs.length kC) cs uc := ho5.c
  obtain ⟨hZ, hf1, hf2⟩ := zip_co hoC
  have cD := deleteFunc_any _ _ w3.heap.size P b M w5 hZ (by rw [List.length_zip, hoC.ul, Nat.min_self]; exact hlc) hm5 hk5 (fun z hz => by
    refine hci _ ?_
    rw [← hf1]
    exact List.mem_map_of_mem hz)
  clear hm5 hk5 hci
  go_wp2_with fail
  refine cD.mono ?_
  rintro e w6 ⟨u, rfl, hO6, hg6⟩
  have hlen : ((cs.zip uc).filter (inM M)).length = (kept M cs).length := by rw [← List.length_map (f := (·.1)), map_keep, hf1]
  have hC6 := hO6.co
  rw [map_keep, hf1] at hC6
  obtain ⟨aD, kD, rfl⟩ := own_form hC6.row
  have hrk := rk_own hoC.row hg6
  have hB6 := ho5.b.rk hrk (by decide) (by decide)
  have hU6 : w6.ownsRow w3.heap.size 65 3 (.slice aU us.length kU) us.length (ucs us) := hrk _ _ _ _ _ _ (by decide) ho5.u
  have hne : ∀ (k : Nat) (c : Array Value), w5.heap[k]? = some (Obj.cells c 26) → w6.heap[k]? = some (Obj.cells c 26) := fun k c hk => (hg6.block k (heap_lt hk) (box_apart hoC.row hk (by decide))).trans hk
  have hp6 : SB w6 w.heap.size ⟨nc, nb, cs, bs, us⟩ _ _ _ := hne _ _ hp5
  have hr6 : SB w6 (w.heap.size + 1) ⟨0, 0, [], [], []⟩ _ _ _ := hne _ _ hr5
  have hq6 : SB w6 Q ⟨nc, nb, cs, bs, us⟩ _ _ _ := hne _ _ hq5
  have hbb6 : Below w.heap.size w w6 := hbb5.grown hg6 hbb5.size (fun j hj => by have := (hoC.row.lt j hj).1; omega)
  clear hne hp5 hr5 hq5 hbb5 hg6 cD ho5 hoC hZ hf1 hf2 hrk x0 x1 x2 x3 x4 hO6
  obtain ⟨x0, x1, x2, x3, x4⟩ := cellsSB hq6
  obtain ⟨f0, f1, f2, f3, f4⟩ := frzS hq6
  generalize hKp : kept M cs = Kp at *
  go_upto_region 4 with fail
  have hq7 : SB (w6.setCell ⟨Q, 2, none⟩ (.slice aD Kp.length kD)) Q ⟨nc, nb, Kp, bs, us⟩ (.slice aD Kp.length kD) (.slice aB bs.length kB) (.slice aU us.length kU) := heap_setCell hq6 2 _
  have hp7 := (Below.heap_setCell w6 ⟨Q, 2, none⟩ (.slice aD Kp.length kD) w.heap.size (by simp; omega)).trans hp6
  have hr7 := (Below.heap_setCell w6 ⟨Q, 2, none⟩ (.slice aD Kp.length kD) (w.heap.size + 1) (by simp; omega)).trans hr6
  have hk7 := rk_set (x := .slice aD Kp.length kD) (j := 2) hq6
  have hC7 := hC6.rk hk7 (by decide) (by decide) (by decide)
  have hB7 := hB6.rk hk7 (by decide) (by decide)
  have hU7 := hk7 _ _ _ _ _ _ (by decide) hU6
  have hbb7 := hbb6.setCell (p := ⟨Q, 2, none⟩) (Nat.le_of_lt hpq) (.slice aD Kp.length kD)
  clear hC6 hB6 hU6 hk7 hp6 hr6 hq6 hbb6 x0 x1 x2 x3 x4 f0 f1 f2 f3 f4
  generalize w6.setCell ⟨Q, 2, none⟩ (.slice aD Kp.length kD) = w7 at *
  have hp8 : SB w7 w.heap.size ⟨nc, nb, cs, bs, us⟩ (.slice a1 cs.length k1) (.slice a2 bs.length k2) (.slice a3 us.length k3) := hp7
  have hr8 : SB w7 (w.heap.size + 1) ⟨0, 0, [], [], []⟩ (.slice none 0 0) (.slice none 0 0) (.slice none 0 0) := hr7
  have hwl : IntKind.i64.wrap ((cs.length : Int) - (Kp.length : Int)) = (cs.length : Int) - (Kp.length : Int) := by
    have : Kp.length ≤ cs.length := by rw [← hKp]; exact List.length_filter_le _ _
    exact wraps_i64 _ (by omega) (by omega)
  obtain ⟨x0, x1, x2, x3, x4⟩ := cellsSB hp8
  obtain ⟨y0, y1, y2, y3, y4⟩ := cellsSB hr8
  obtain ⟨z0, z1, z2, z3, z4⟩ := cellsSB hq7
  obtain ⟨f0, f1, f2, f3, f4⟩ := frzS hr8
  go_region
  have hfin := SB.put hr8 ⟨nc, nb, Kp, bs, us⟩ (.slice aD Kp.length kD) (.slice aB bs.length kB) (.slice aU us.length kU)
  have hO7 : OwSt w7 w3.heap.size (.slice aD Kp.length kD) (.slice aB bs.length kB) (.slice aU us.length kU) ⟨nc, nb, Kp, bs, us⟩ _ _ := ⟨hC7, hB7, hU7⟩
  have ho := ow_putS (S' := ⟨nc, nb, Kp, bs, us⟩) (u1 := .slice aD Kp.length kD) (u2 := .slice aB bs.length kB) (u3 := .slice aU us.length kU) hr8 (hO7.lower (B' := w.heap.size) hz3)
  have hb := below_putS hbb7 (g := w.heap.size + 1) (by omega) ⟨nc, nb, Kp, bs, us⟩ (.slice aD Kp.length kD) (.slice aB bs.length kB) (.slice aU us.length kU)
  simp only at hfin ho hb
  generalize ((((w7.setCell ⟨w.heap.size + 1, 0, none⟩ (.int .i64 nc)).setCell ⟨w.heap.size + 1, 1, none⟩ (.int .i64 nb)).setCell ⟨w.heap.size + 1, 2, none⟩ (.slice aD Kp.length kD)).setCell ⟨w.heap.size + 1, 3, none⟩ (.slice aB bs.length kB)).setCell ⟨w.heap.size + 1, 4, none⟩ (.slice aU us.length kU) = WF at *
  have hfin' : WF.drew.heap[w.heap.size + 1]? = some (.cells _ 26) := hfin
  clear x0 x1 x2 x3 x4 y0 y1 y2 y3 y4 z0 z1 z2 z3 z4 f0 f1 f2 f3 f4
  go_wp21
  refine bodyPost_ret (results_row_tmpR rfl _ _ (w.heap.size + 1) 26 _ (0, 0) _ rfl hfin' Try.underlying26 rfl Try.sizeSt) rfl ?_
  subst hKp
  exact ⟨.slice aD (kept M cs).length kD, .slice aB bs.length kB, .slice aU us.length kU, M, rfl, hN, ⟨_, _, ho.below (Below.refl _ _).drew⟩, hb.drew⟩
end Go.Proofs.Ythhdpabelcgfjaa
